/- Contracts (the document's): things that are the same. -/
import Derived.Test.YtikdjloedeinhaaDoorSX19
namespace Go.Proofs.YtikdjloedeinhaaDoor
open Go.RowKit
set_option linter.unusedSimpArgs false
set_option linter.unusedVariables false

theorem ne_self (s : ByteArray) : (s.toList != s.toList) = false := by simp
theorem neb_self (b : Bool) : (b != b) = false := by simp
theorem nei_self (b : Int) : (b != b) = false := by simp
set_option maxRecDepth 20000 in
set_option maxHeartbeats 6400000 in
theorem Same_any (x : Sx) : ∀ {w : World} {D : Nat → Prop} {u u' : Value} (_ : Row w D x.ks u) (_ : Row w D x.ks u') (_ : ∀ g, D g → g < w.heap.size),
    Calls Tryd.prog 22 #[.agg #[.string x.w, .bool x.l, u], .agg #[.string x.w, .bool x.l, u']] w fun e w' => e = .returned (.bool true) ∧ Below w.heap.size w w' := by
  match x with
  | .mk sw tl ks =>
  intro w D u u' hr hr2 hD
  have IH : Hid (∀ (y : Sx), y ∈ ks → ∀ {w : World} {D : Nat → Prop} {u u' : Value} (_ : Row w D y.ks u) (_ : Row w D y.ks u') (_ : ∀ g, D g → g < w.heap.size),
    Calls Tryd.prog 22 #[.agg #[.string y.w, .bool y.l, u], .agg #[.string y.w, .bool y.l, u']] w fun e w' => e = .returned (.bool true) ∧ Below w.heap.size w w') := fun y hy => Same_any y
  have hr' : Row w D ks u := hr
  have hr2' : Row w D ks u' := hr2
  clear hr hr2
  show Calls Tryd.prog 22 #[.agg #[.string sw, .bool tl, u], .agg #[.string sw, .bool tl, u']] w fun e w' => e = .returned (.bool true) ∧ Below w.heap.size w w'
  have hml := row_len hr'
  obtain ⟨a, c, rfl, hget⟩ := row_get hr'
  obtain ⟨a2, c2, rfl, hget2⟩ := row_get hr2'
  have HG : Hid _ := hget
  have HG2 : Hid _ := hget2
  obtain ⟨N, hN⟩ : ∃ N, N = ks.length := ⟨_, rfl⟩
  have HN : Hid _ := hN
  have hN9 : (N : Int) ≤ 9223372036854775807 := by unfold maxLen at hml; omega
  rw [← hN]
  have n1 := ne_self sw
  have n2 := neb_self tl
  have n3 := nei_self (N : Int)
  clear hget hget2 hr' hr2' hN hml
  go_enter Tryd.func22, Tryd.ntmps22
  go_wp2_with fail
  go_loopw [5] (fun i wr => ∃ k : Nat, k ≤ N ∧ i = .int .i64 (k : Int) ∧ Hid (Below w.heap.size w wr) ∧ Hid (wr.cell? ⟨w.heap.size, 2, none⟩ = some (.slice a N c) ∧ wr.cell? ⟨w.heap.size + 1, 2, none⟩ = some (.slice a2 N c2))) (fun i wr => N - (intOf i).toNat)
  case atStart => exact ⟨0, Nat.zero_le _, rfl, by unfold Hid; go_grown, by unfold Hid; constructor <;> simp⟩
  case round =>
    obtain ⟨k, hk, rfl, hW, hX⟩ := hrel
    have hsr : w.heap.size ≤ wr.heap.size := hW.out.size
    obtain ⟨q0, q1⟩ := hX.out
    by_cases hlt : k < N
    · obtain ⟨y, hy⟩ : ∃ y, ks[k]? = some y := ⟨_, List.getElem?_eq_getElem (by rw [← HN.out]; exact hlt)⟩
      obtain ⟨g, o, uy, rfl, hDg, hgl, g0, g1, g2, hRy⟩ := HG.out k y hy
      obtain ⟨g', o', uy', rfl, hDg', hgl', g0', g1', g2', hRy'⟩ := HG2.out k y hy
      have cc : ∀ i, wr.cell? ⟨g, i, none⟩ = w.cell? ⟨g, i, none⟩ := fun i => World.cell?_of_block (a := ⟨g, i, none⟩) (hW.out.block g (hD g hDg))
      have cc' : ∀ i, wr.cell? ⟨g', i, none⟩ = w.cell? ⟨g', i, none⟩ := fun i => World.cell?_of_block (a := ⟨g', i, none⟩) (hW.out.block g' (hD g' hDg'))
      have d0 : wr.cell? ⟨g, o + k * 3, none⟩ = some (.string y.w) := (cc _).trans g0
      have d1 : wr.cell? ⟨g, o + k * 3 + 1, none⟩ = some (.bool y.l) := (cc _).trans g1
      obtain ⟨ay, ny, cy, rfl⟩ := hRy.sl
      have d2 : wr.cell? ⟨g, o + k * 3 + 2, none⟩ = some (.slice ay ny cy) := (cc _).trans g2
      have f0 : wr.cell? ⟨g', o' + k * 3, none⟩ = some (.string y.w) := (cc' _).trans g0'
      have f1 : wr.cell? ⟨g', o' + k * 3 + 1, none⟩ = some (.bool y.l) := (cc' _).trans g1'
      obtain ⟨ay', ny', cy', rfl⟩ := hRy'.sl
      have f2 : wr.cell? ⟨g', o' + k * 3 + 2, none⟩ = some (.slice ay' ny' cy') := (cc' _).trans g2'
      have hltI : (k : Int) < (N : Int) := by omega
      have HSY : Hid (Calls Tryd.prog 22 #[.agg #[.string y.w, .bool y.l, .slice ay ny cy], .agg #[.string y.w, .bool y.l, .slice ay' ny' cy']] wr.drew fun e w' => e = .returned (.bool true) ∧ Hid (Below w.heap.size w w' ∧ w'.cell? ⟨w.heap.size, 2, none⟩ = some (.slice (some ⟨g, o, none⟩) N c) ∧ w'.cell? ⟨w.heap.size + 1, 2, none⟩ = some (.slice (some ⟨g', o', none⟩) N c2))) := by
        have h1 := IH.out y (List.mem_of_getElem? hy) (w := wr.drew) (row_low hRy hD (hW.out.trans (drew_below _ _))) (row_low hRy' hD (hW.out.trans (drew_below _ _))) (fun g hg => by have := hD g hg; show g < wr.heap.size; omega)
        refine h1.mono ?_
        rintro e w' ⟨rfl, hb⟩
        have hb2 : Below wr.heap.size wr w' := Below.trans (drew_below _ _) hb
        refine ⟨rfl, hW.out.trans (hb2.mono hsr), ?_, ?_⟩
        · rw [hb2.cell (p := ⟨w.heap.size, 2, none⟩) (World.block_lt_of_cell? _ _ q0)]; exact q0
        · rw [hb2.cell (p := ⟨w.heap.size + 1, 2, none⟩) (World.block_lt_of_cell? _ _ q1)]; exact q1
      clear hy g0 g1 g2 hRy cc g0' g1' g2' hRy' cc' n1 n2 n3
      go_wp2_with fail
      go_region_with ((go_at_call 22; refine Calls.mono HSY.out ?_; rintro e w2 ⟨rfl, hW2⟩))
      all_goals
        go_wp2_with fail
        exact ⟨⟨k + 1, by omega, rfl, hW2.out.1, hW2.out.2⟩, by simp [intOf]; omega⟩
    · obtain rfl : k = N := by omega
      go_wp2_with fail
      go_ret
      exact ⟨rfl, hW.out⟩
termination_by SizeOf.sizeOf x
decreasing_by
  simp_wf
  have := List.sizeOf_lt_of_mem hy
  omega

set_option maxRecDepth 20000 in
set_option maxHeartbeats 6400000 in
theorem same_any {ks : List Sx} {w : World} {D : Nat → Prop} {u u' : Value} (hr' : Row w D ks u) (hr2' : Row w D ks u') (hD : ∀ g, D g → g < w.heap.size) :
    Calls Tryd.prog 13 #[u, u'] w fun e w' => e = .returned (.bool true) ∧ Below w.heap.size w w' := by
  have hml := row_len hr'
  obtain ⟨a, c, rfl, hget⟩ := row_get hr'
  obtain ⟨a2, c2, rfl, hget2⟩ := row_get hr2'
  have HG : Hid _ := hget
  have HG2 : Hid _ := hget2
  obtain ⟨N, hN⟩ : ∃ N, N = ks.length := ⟨_, rfl⟩
  have HN : Hid _ := hN
  have hN9 : (N : Int) ≤ 9223372036854775807 := by unfold maxLen at hml; omega
  rw [← hN]
  have n3 := nei_self (N : Int)
  clear hget hget2 hr' hr2' hN hml
  go_enter Tryd.func13, Tryd.ntmps13
  go_wp2_with fail
  go_loopw [5] (fun i wr => ∃ k : Nat, k ≤ N ∧ i = .int .i64 (k : Int) ∧ Hid (Below w.heap.size w wr)) (fun i wr => N - (intOf i).toNat)
  case atStart => exact ⟨0, Nat.zero_le _, rfl, Below.refl _ _⟩
  case round =>
    obtain ⟨k, hk, rfl, hW⟩ := hrel
    have hsr : w.heap.size ≤ wr.heap.size := hW.out.size
    by_cases hlt : k < N
    · obtain ⟨y, hy⟩ : ∃ y, ks[k]? = some y := ⟨_, List.getElem?_eq_getElem (by rw [← HN.out]; exact hlt)⟩
      obtain ⟨g, o, uy, rfl, hDg, hgl, g0, g1, g2, hRy⟩ := HG.out k y hy
      obtain ⟨g', o', uy', rfl, hDg', hgl', g0', g1', g2', hRy'⟩ := HG2.out k y hy
      have cc : ∀ i, wr.cell? ⟨g, i, none⟩ = w.cell? ⟨g, i, none⟩ := fun i => World.cell?_of_block (a := ⟨g, i, none⟩) (hW.out.block g (hD g hDg))
      have cc' : ∀ i, wr.cell? ⟨g', i, none⟩ = w.cell? ⟨g', i, none⟩ := fun i => World.cell?_of_block (a := ⟨g', i, none⟩) (hW.out.block g' (hD g' hDg'))
      have d0 : wr.cell? ⟨g, o + k * 3, none⟩ = some (.string y.w) := (cc _).trans g0
      have d1 : wr.cell? ⟨g, o + k * 3 + 1, none⟩ = some (.bool y.l) := (cc _).trans g1
      obtain ⟨ay, ny, cy, rfl⟩ := hRy.sl
      have d2 : wr.cell? ⟨g, o + k * 3 + 2, none⟩ = some (.slice ay ny cy) := (cc _).trans g2
      have f0 : wr.cell? ⟨g', o' + k * 3, none⟩ = some (.string y.w) := (cc' _).trans g0'
      have f1 : wr.cell? ⟨g', o' + k * 3 + 1, none⟩ = some (.bool y.l) := (cc' _).trans g1'
      obtain ⟨ay', ny', cy', rfl⟩ := hRy'.sl
      have f2 : wr.cell? ⟨g', o' + k * 3 + 2, none⟩ = some (.slice ay' ny' cy') := (cc' _).trans g2'
      have hltI : (k : Int) < (N : Int) := by omega
      have HSY : Hid (Calls Tryd.prog 22 #[.agg #[.string y.w, .bool y.l, .slice ay ny cy], .agg #[.string y.w, .bool y.l, .slice ay' ny' cy']] wr.drew fun e w' => e = .returned (.bool true) ∧ Hid (Below w.heap.size w w')) := by
        have h1 := Same_any y (w := wr.drew) (row_low hRy hD (hW.out.trans (drew_below _ _))) (row_low hRy' hD (hW.out.trans (drew_below _ _))) (fun g hg => by have := hD g hg; show g < wr.heap.size; omega)
        refine h1.mono ?_
        rintro e w' ⟨rfl, hb⟩
        have hb2 : Below wr.heap.size wr w' := Below.trans (drew_below _ _) hb
        exact ⟨rfl, hW.out.trans (hb2.mono hsr)⟩
      clear hy g0 g1 g2 hRy cc g0' g1' g2' hRy' cc' n3
      go_wp2_with fail
      go_region_with ((go_at_call 22; refine Calls.mono HSY.out ?_; rintro e w2 ⟨rfl, hW2⟩))
      all_goals
        go_wp2_with fail
        exact ⟨⟨k + 1, by omega, rfl, hW2⟩, by simp [intOf]; omega⟩
    · obtain rfl : k = N := by omega
      go_wp2_with fail
      go_ret
      exact ⟨rfl, hW.out⟩
end Go.Proofs.YtikdjloedeinhaaDoor
