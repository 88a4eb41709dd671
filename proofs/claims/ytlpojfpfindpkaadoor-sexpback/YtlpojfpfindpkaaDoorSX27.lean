/- The document's Light: how heavy a thing is. -/
import Derived.Test.YtlpojfpfindpkaaDoorSX24
import Derived.Test.YtlpojfpfindpkaaDoorSX25
namespace Go.Proofs.YtlpojfpfindpkaaDoor
open Go.RowKit
set_option linter.unusedSimpArgs false
set_option linter.unusedVariables false

mutual
def Sx.lt : Sx → Nat
  | .mk w _ ks => 1 + w.size / 8 + lts ks
def lts : List Sx → Nat
  | [] => 0
  | x :: r => x.lt + lts r
end
theorem lts_take {ks : List Sx} {j : Nat} {x : Sx} (h : ks[j]? = some x) : lts (ks.take (j + 1)) = lts (ks.take j) + x.lt := by
  rw [List.take_add_one, h]
  show lts (ks.take j ++ [x]) = _
  have key : ∀ l : List Sx, lts (l ++ [x]) = lts l + x.lt := by
    intro l
    induction l with
    | nil => simp [lts]
    | cons y r ih => simp only [List.cons_append, lts, ih]; omega
  exact key _
set_option maxRecDepth 20000 in
set_option maxHeartbeats 6400000 in
theorem Light_any (x : Sx) : ∀ {w : World} {D : Nat → Prop} {u : Value} {m d : Int} (_ : Row w D x.ks u) (_ : ∀ g, D g → g < w.heap.size) (_ : x.wk) (_ : 0 ≤ m) (_ : m ≤ 2000) (_ : 0 ≤ d) (_ : d ≤ 300),
    Calls Tryd.prog 14 #[.agg #[.string x.w, .bool x.l, u], .int .i64 m, .int .i64 d] w fun e w' => ∃ r : Int, e = .returned (.int .i64 r) ∧ 0 ≤ r ∧ r ≤ m + 1152921504606846976 ∧ Hid (r ≤ m → r = (x.lt : Nat)) ∧ Below w.heap.size w w' := by
  match x with
  | .mk sw tl ks =>
  intro w D u m d hr hD hwk hm0 hm1 hd0 hd1
  have IH : Hid (∀ (y : Sx), y ∈ ks → ∀ {w : World} {D : Nat → Prop} {u : Value} {m d : Int} (_ : Row w D y.ks u) (_ : ∀ g, D g → g < w.heap.size) (_ : y.wk) (_ : 0 ≤ m) (_ : m ≤ 2000) (_ : 0 ≤ d) (_ : d ≤ 300),
    Calls Tryd.prog 14 #[.agg #[.string y.w, .bool y.l, u], .int .i64 m, .int .i64 d] w fun e w' => ∃ r : Int, e = .returned (.int .i64 r) ∧ 0 ≤ r ∧ r ≤ m + 1152921504606846976 ∧ Hid (r ≤ m → r = (y.lt : Nat)) ∧ Below w.heap.size w w') := fun y hy => Light_any y
  have hr' : Row w D ks u := hr
  clear hr
  obtain ⟨hsw, hwks⟩ : sw.size ≤ maxLen ∧ wks ks := hwk
  show Calls Tryd.prog 14 #[.agg #[.string sw, .bool tl, u], .int .i64 m, .int .i64 d] w fun e w' => ∃ r : Int, e = .returned (.int .i64 r) ∧ 0 ≤ r ∧ r ≤ m + 1152921504606846976 ∧ Hid (r ≤ m → r = ((Sx.mk sw tl ks).lt : Nat)) ∧ Below w.heap.size w w'
  have hml := row_len hr'
  obtain ⟨a, c, rfl, hget⟩ := row_get hr'
  have HG : Hid _ := hget
  have HWK : Hid _ := wks_get hwks
  obtain ⟨N, hN⟩ : ∃ N, N = ks.length := ⟨_, rfl⟩
  have HN : Hid _ := hN
  have hN9 : (N : Int) ≤ 9223372036854775807 := by unfold maxLen at hml; omega
  rw [← hN]
  by_cases h0 : m ≤ 0
  · clear hget hr' IH hN hml HG HN hwks HWK hsw
    go_enter Tryd.func14, Tryd.ntmps14
    go_wp2_with fail
    go_ret
    exact ⟨m + 1, rfl, by omega, by omega, fun h => by omega, by go_grown⟩
  · by_cases h1 : d ≤ 0
    · clear hget hr' IH hN hml HG HN hwks HWK hsw
      go_enter Tryd.func14, Tryd.ntmps14
      go_wp2_with fail
      go_ret
      exact ⟨m + 1, rfl, by omega, by omega, fun h => by omega, by go_grown⟩
    · obtain ⟨Q, hQ⟩ : ∃ Q : Nat, Q = sw.size / 8 := ⟨_, rfl⟩
      have hQ1 : (Q : Int) ≤ 1152921504606846975 := by unfold maxLen at hsw; omega
      have hq : (sw.size : Int).tdiv 8 = (Q : Int) := by rw [hQ]; exact (Int.ofNat_tdiv _ _).symm
      have hss : (sw.size : Int) ≤ 9223372036854775807 := by unfold maxLen at hsw; omega
      have HQ : Hid ((Sx.mk sw tl ks).lt = 1 + Q + lts ks) := by unfold Hid; rw [hQ]; simp [Sx.lt]
      clear hget hr' hN hml hwks hsw hQ
      go_enter Tryd.func14, Tryd.ntmps14
      go_wp2_with fail
      go_loopw [7, 8] (fun s i wr => ∃ k : Nat, k ≤ N ∧ ∃ n : Int, s = .int .i64 n ∧ 0 ≤ n ∧ n ≤ m + 1152921504606846976 ∧ Hid (n ≤ m → n = ((1 + Q + lts (ks.take k) : Nat) : Int)) ∧ i = .int .i64 (k : Int) ∧ Hid (Below w.heap.size w wr) ∧ Hid (wr.cell? ⟨w.heap.size, 2, none⟩ = some (.slice a N c))) (fun s i wr => N - (intOf i).toNat)
      case atStart => exact ⟨0, Nat.zero_le _, _, rfl, by omega, by omega, fun _ => by simp [lts], rfl, by unfold Hid; go_grown, by unfold Hid; simp⟩
      case round =>
        obtain ⟨k, hk, n, rfl, hn0, hn1, hn, rfl, hW, hX⟩ := hrel
        have hsr : w.heap.size ≤ wr.heap.size := hW.out.size
        have q1 := hX.out
        by_cases hlt : k < N
        · by_cases hnm : n ≤ m
          · obtain ⟨y, hy⟩ : ∃ y, ks[k]? = some y := ⟨_, List.getElem?_eq_getElem (by rw [← HN.out]; exact hlt)⟩
            obtain ⟨g, o, uy, rfl, hDg, hgl, g0, g1, g2, hRy⟩ := HG.out k y hy
            have cc : ∀ i, wr.cell? ⟨g, i, none⟩ = w.cell? ⟨g, i, none⟩ := fun i => World.cell?_of_block (a := ⟨g, i, none⟩) (hW.out.block g (hD g hDg))
            have d0 : wr.cell? ⟨g, o + k * 3, none⟩ = some (.string y.w) := (cc _).trans g0
            have d1 : wr.cell? ⟨g, o + k * 3 + 1, none⟩ = some (.bool y.l) := (cc _).trans g1
            obtain ⟨ay, ny, cy, rfl⟩ := hRy.sl
            have d2 : wr.cell? ⟨g, o + k * 3 + 2, none⟩ = some (.slice ay ny cy) := (cc _).trans g2
            have hltI : (k : Int) < (N : Int) := by omega
            have hST := lts_take hy
            have HSY : Hid (Calls Tryd.prog 14 #[.agg #[.string y.w, .bool y.l, .slice ay ny cy], .int .i64 (m - n), .int .i64 (d - 1)] wr fun e w' => ∃ r : Int, e = .returned (.int .i64 r) ∧ 0 ≤ r ∧ r ≤ m - n + 1152921504606846976 ∧ Hid (n + r ≤ m → n + r = ((1 + Q + lts (ks.take (k + 1)) : Nat) : Int)) ∧ Hid (Below w.heap.size w w') ∧ Hid (w'.cell? ⟨w.heap.size, 2, none⟩ = some (.slice (some ⟨g, o, none⟩) N c))) := by
              have h1 := IH.out y (List.mem_of_getElem? hy) (w := wr) (m := m - n) (d := d - 1) (row_low hRy hD hW.out) (fun g hg => by have := hD g hg; omega) (HWK.out y (List.mem_of_getElem? hy)) (by omega) (by omega) (by omega) (by omega)
              refine h1.mono ?_
              rintro e w' ⟨r, rfl, hr0, hr1, hr2, hb⟩
              refine ⟨r, rfl, hr0, hr1, fun hh => ?_, hW.out.trans (hb.mono hsr), ?_⟩
              · have e1 := hn.out (by omega)
                have e2 := hr2.out (by omega)
                rw [hST]; omega
              · unfold Hid
                rw [hb.cell (p := ⟨w.heap.size, 2, none⟩) (World.block_lt_of_cell? _ _ q1)]; exact q1
            clear hy g0 g1 g2 hRy cc hST
            go_wp2_with fail
            refine Calls.mono HSY.out ?_
            rintro e w2 ⟨r, rfl, hr0, hr1, hr2, hb3, hX2⟩
            go_wp2_with fail
            exact ⟨⟨k + 1, by omega, n + r, rfl, by omega, by omega, hr2, rfl, hb3, hX2⟩, by simp [intOf]; omega⟩
          · have hltI : (k : Int) < (N : Int) := by omega
            go_wp2_with fail
            go_ret
            exact ⟨n, rfl, hn0, hn1, fun h => by omega, hW.out⟩
        · obtain rfl : k = N := by omega
          have htk : ks.take k = ks := by rw [HN.out]; exact List.take_length
          rw [htk] at hn
          have HF : Hid (n ≤ m → n = ((Sx.mk sw tl ks).lt : Nat)) := fun h => by rw [HQ.out]; exact hn.out h
          clear htk
          go_wp2_with fail
          go_ret
          exact ⟨n, rfl, hn0, hn1, HF, hW.out⟩
termination_by SizeOf.sizeOf x
decreasing_by
  simp_wf
  have := List.sizeOf_lt_of_mem hy
  omega
end Go.Proofs.YtlpojfpfindpkaaDoor
