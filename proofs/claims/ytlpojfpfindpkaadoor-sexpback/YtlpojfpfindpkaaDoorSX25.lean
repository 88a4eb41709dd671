/- The document's Size and Print. -/
import Derived.Test.YtlpojfpfindpkaaDoorSX21
namespace Go.Proofs.YtlpojfpfindpkaaDoor
open Go.RowKit
set_option linter.unusedSimpArgs false
set_option linter.unusedVariables false

theorem sizs_len (l : List Sx) : l.length ≤ sizs l := by
  induction l with
  | nil => simp
  | cons y r ih =>
    have : 1 ≤ y.siz := by cases y with | mk _ tl _ => cases tl <;> simp [Sx.siz]
    simp only [List.length_cons, sizs]; omega
set_option maxRecDepth 20000 in
set_option maxHeartbeats 6400000 in
theorem rSize_any (x : Sx) : ∀ {w : World} {D : Nat → Prop} {u : Value} (_ : Row w D x.ks u) (_ : ∀ g, D g → g < w.heap.size) (_ : x.siz ≤ 4000000),
    Calls Tryd.prog 18 #[.agg #[.string x.w, .bool x.l, u]] w fun e w' => e = .returned (.int .i64 (x.siz : Nat)) ∧ Below w.heap.size w w' := by
  match x with
  | .mk sw tl ks =>
  intro w D u hr hD hlen
  have IH : Hid (∀ (y : Sx), y ∈ ks → ∀ {w : World} {D : Nat → Prop} {u : Value} (_ : Row w D y.ks u) (_ : ∀ g, D g → g < w.heap.size) (_ : y.siz ≤ 4000000),
    Calls Tryd.prog 18 #[.agg #[.string y.w, .bool y.l, u]] w fun e w' => e = .returned (.int .i64 (y.siz : Nat)) ∧ Below w.heap.size w w') := fun y hy => rSize_any y
  have hr' : Row w D ks u := hr
  clear hr
  show Calls Tryd.prog 18 #[.agg #[.string sw, .bool tl, u]] w fun e w' => e = .returned (.int .i64 ((Sx.mk sw tl ks).siz : Nat)) ∧ Below w.heap.size w w'
  obtain ⟨a, c, rfl, hget⟩ := row_get hr'
  cases tl
  · have hp : (Sx.mk sw false ks).siz = 1 := by simp [Sx.siz]
    rw [hp]
    obtain ⟨N, hN⟩ : ∃ N, N = ks.length := ⟨_, rfl⟩
    rw [← hN]
    clear hget hr' IH hp hlen hN
    go_enter Tryd.func18, Tryd.ntmps18
    go_wp2_with fail
    go_loopw [3, 4] (fun s i wr => s = .int .i64 1 ∧ i = .int .i64 0 ∧ Hid (Below w.heap.size w wr) ∧ wr.cell? ⟨w.heap.size, 1, none⟩ = some (.bool false)) (fun s i wr => 0)
    case atStart => exact ⟨rfl, rfl, by unfold Hid; go_grown, by simp⟩
    case round =>
      obtain ⟨rfl, rfl, hW, q0⟩ := hrel
      go_wp2_with fail
      go_ret
      exact ⟨rfl, hW.out⟩
  · have hp : (Sx.mk sw true ks).siz = 1 + sizs ks := by simp [Sx.siz]
    rw [hp] at hlen ⊢
    have hkl : ks.length ≤ sizs ks := sizs_len ks
    have HG : Hid _ := hget
    obtain ⟨N, hN⟩ : ∃ N, N = ks.length := ⟨_, rfl⟩
    have HN : Hid _ := hN
    have hN9 : N ≤ 4000000 := by omega
    rw [← hN]
    have HLEN : Hid _ := hlen
    clear hget hr' hp hlen hkl hN
    go_enter Tryd.func18, Tryd.ntmps18
    go_wp2_with fail
    go_loopw [3, 4] (fun s i wr => ∃ k : Nat, k ≤ N ∧ s = .int .i64 ((1 + sizs (ks.take k) : Nat) : Int) ∧ i = .int .i64 (k : Int) ∧ Hid (Below w.heap.size w wr) ∧ Hid (wr.cell? ⟨w.heap.size, 1, none⟩ = some (.bool true) ∧ wr.cell? ⟨w.heap.size, 2, none⟩ = some (.slice a N c))) (fun s i wr => N - (intOf i).toNat)
    case atStart => exact ⟨0, Nat.zero_le _, by simp [sizs], rfl, by unfold Hid; go_grown, by unfold Hid; constructor <;> simp⟩
    case round =>
      obtain ⟨k, hk, rfl, rfl, hW, hX⟩ := hrel
      have hsr : w.heap.size ≤ wr.heap.size := hW.out.size
      obtain ⟨q0, q1⟩ := hX.out
      by_cases hlt : k < N
      · obtain ⟨y, hy⟩ : ∃ y, ks[k]? = some y := ⟨_, List.getElem?_eq_getElem (by rw [← HN.out]; exact hlt)⟩
        obtain ⟨g, o, uy, rfl, hDg, hgl, g0, g1, g2, hRy⟩ := HG.out k y hy
        have cc : ∀ i, wr.cell? ⟨g, i, none⟩ = w.cell? ⟨g, i, none⟩ := fun i => World.cell?_of_block (a := ⟨g, i, none⟩) (hW.out.block g (hD g hDg))
        have d0 : wr.cell? ⟨g, o + k * 3, none⟩ = some (.string y.w) := (cc _).trans g0
        have d1 : wr.cell? ⟨g, o + k * 3 + 1, none⟩ = some (.bool y.l) := (cc _).trans g1
        obtain ⟨ay, ny, cy, rfl⟩ := hRy.sl
        have d2 : wr.cell? ⟨g, o + k * 3 + 2, none⟩ = some (.slice ay ny cy) := (cc _).trans g2
        have hltI : (k : Int) < (N : Int) := by omega
        have hST := sizs_take hy
        have hSM := sizs_mono (ks := ks) (j := k + 1)
        rw [hST] at hSM
        have hY : y.siz ≤ 4000000 := by have := HLEN.out; omega
        obtain ⟨S, hS⟩ : ∃ S : Nat, S = 1 + sizs (ks.take k) := ⟨_, rfl⟩
        obtain ⟨Y, hYe⟩ : ∃ Y : Nat, Y = y.siz := ⟨_, rfl⟩
        have HSY : Hid (Calls Tryd.prog 18 #[.agg #[.string y.w, .bool y.l, .slice ay ny cy]] wr fun e w' => e = .returned (.int .i64 (Y : Nat)) ∧ Hid (Below w.heap.size w w') ∧ Hid (w'.cell? ⟨w.heap.size, 1, none⟩ = some (.bool true) ∧ w'.cell? ⟨w.heap.size, 2, none⟩ = some (.slice (some ⟨g, o, none⟩) N c))) := by
          have h1 := IH.out y (List.mem_of_getElem? hy) (w := wr) (row_low hRy hD hW.out) (fun g hg => by have := hD g hg; omega) hY
          refine h1.mono ?_
          rintro e w' ⟨rfl, hb⟩
          refine ⟨by rw [hYe], hW.out.trans (hb.mono hsr), ?_, ?_⟩
          · rw [hb.cell (p := ⟨w.heap.size, 1, none⟩) (World.block_lt_of_cell? _ _ q0)]; exact q0
          · rw [hb.cell (p := ⟨w.heap.size, 2, none⟩) (World.block_lt_of_cell? _ _ q1)]; exact q1
        have HSS : Hid (1 + sizs (ks.take (k + 1)) = S + Y) := by unfold Hid; rw [hST, hS, hYe]; omega
        have hb1 : (S : Int) ≤ 4000001 := by have := HLEN.out; omega
        have hb2 : (Y : Int) ≤ 4000000 := by omega
        rw [← hS]
        clear hy g0 g1 g2 hRy cc hST hSM hY hS hYe
        go_wp2_with fail
        refine Calls.mono HSY.out ?_
        rintro e w2 ⟨rfl, hb3, hX2⟩
        go_wp2_with fail
        exact ⟨⟨k + 1, by omega, by rw [HSS.out]; rfl, rfl, hb3, hX2⟩, by simp [intOf]; omega⟩
      · obtain rfl : k = N := by omega
        have htk : ks.take k = ks := by rw [HN.out]; exact List.take_length
        rw [htk]
        go_wp2_with fail
        go_ret
        exact ⟨rfl, hW.out⟩
termination_by SizeOf.sizeOf x
decreasing_by
  simp_wf
  have := List.sizeOf_lt_of_mem hy
  omega
end Go.Proofs.YtlpojfpfindpkaaDoor
