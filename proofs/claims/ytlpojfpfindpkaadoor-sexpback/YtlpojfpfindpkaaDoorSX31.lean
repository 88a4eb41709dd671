/- The law's clean. -/
import Derived.Test.YtlpojfpfindpkaaDoorSX30
import Derived.Test.YtlpojfpfindpkaaDoorSX29
namespace Go.Proofs.YtlpojfpfindpkaaDoor
open Go.RowKit
set_option linter.unusedSimpArgs false
set_option linter.unusedVariables false

theorem cls_take {ks : List Sx} {d k : Nat} {y : Sx} (hy : ks[k]? = some y) : cls d (ks.take (k + 1)) = (cls d (ks.take k) && y.cl d) := by
  rw [List.take_add_one, hy]
  show cls d (ks.take k ++ [y]) = _
  have key : ∀ l : List Sx, cls d (l ++ [y]) = (cls d l && y.cl d) := by
    intro l
    induction l with
    | nil => simp [cls]
    | cons z r ih => simp only [List.cons_append, cls, ih, Bool.and_assoc]
  exact key _
theorem cls_not {ks : List Sx} {d : Nat} {y : Sx} (hy : y ∈ ks) (h : y.cl d = false) : cls d ks = false := by
  induction ks with
  | nil => cases hy
  | cons z r ih =>
    simp only [cls]
    rcases List.mem_cons.1 hy with rfl | hy
    · rw [h]; rfl
    · rw [ih hy]; simp
set_option maxRecDepth 20000 in
set_option maxHeartbeats 6400000 in
theorem clean_any (x : Sx) : ∀ {w : World} {D : Nat → Prop} {u : Value} {d : Nat} (_ : Row w D x.ks u) (_ : ∀ g, D g → g < w.heap.size) (_ : x.wk) (_ : d ≤ 200),
    Calls Tryd.prog 21 #[.agg #[.string x.w, .bool x.l, u], .int .i64 (d : Int)] w fun e w' => e = .returned (.bool (x.cl d)) ∧ Below w.heap.size w w' := by
  match x with
  | .mk sw tl ks =>
  intro w D u d hr hD hwk hd
  have IH : Hid (∀ (y : Sx), y ∈ ks → ∀ {w : World} {D : Nat → Prop} {u : Value} {d : Nat} (_ : Row w D y.ks u) (_ : ∀ g, D g → g < w.heap.size) (_ : y.wk) (_ : d ≤ 200),
    Calls Tryd.prog 21 #[.agg #[.string y.w, .bool y.l, u], .int .i64 (d : Int)] w fun e w' => e = .returned (.bool (y.cl d)) ∧ Below w.heap.size w w') := fun y hy => clean_any y
  have hr' : Row w D ks u := hr
  clear hr
  obtain ⟨hsw, hwks⟩ : sw.size ≤ maxLen ∧ wks ks := hwk
  show Calls Tryd.prog 21 #[.agg #[.string sw, .bool tl, u], .int .i64 (d : Int)] w fun e w' => e = .returned (.bool ((Sx.mk sw tl ks).cl d)) ∧ Below w.heap.size w w'
  have hml := row_len hr'
  obtain ⟨a, c, rfl, hget⟩ := row_get hr'
  cases tl
  · have HWD : Hid (∀ wx, Calls Tryd.prog 19 #[.string sw] wx fun e w' => e = .returned (.bool (isW sw.data.toList)) ∧ Below wx.heap.size wx w') := fun wx => by
      have h1 := Word_any sw wx (by unfold maxLen at hsw; omega)
      unfold isW; rw [len_t]; exact h1
    have hcl : (Sx.mk sw false ks).cl d = (decide (ks.length = 0) && isW sw.data.toList) := by simp only [Sx.cl, Bool.false_eq_true, if_false]
    rw [hcl]
    obtain ⟨R, hR⟩ : ∃ R, R = isW sw.data.toList := ⟨_, rfl⟩
    obtain ⟨N, hN⟩ : ∃ N, N = ks.length := ⟨_, rfl⟩
    rw [← hR] at HWD ⊢
    rw [← hN]
    clear hget hr' IH hsw hwks hcl hR hN hml
    by_cases h0 : N = 0
    · subst h0
      go_enter Tryd.func21, Tryd.ntmps21
      go_wp2_with fail
      refine Calls.mono (HWD.out _) ?_
      rintro e w1 ⟨rfl, hb1⟩
      have HB : Hid (Below w.heap.size w w1) := ((Below.refl _ _).alloc (Nat.le_refl _) _).trans (hb1.mono (by simp))
      clear hb1
      go_wp2_with fail
      go_ret
      exact ⟨by simp, HB.out⟩
    · have hz : ((N : Int) == 0) = false := by rw [beq_eq_false_iff_ne]; omega
      have hdz : (decide (N = 0) && R) = false := by simp [h0]
      rw [hdz]
      clear hdz
      go_enter Tryd.func21, Tryd.ntmps21
      go_wp2_with fail
      go_ret
      exact ⟨rfl, by go_grown⟩
  · have hcl : (Sx.mk sw true ks).cl d = (decide (sw.size = 0) && (decide (1 ≤ d) && cls (d - 1) ks)) := by simp only [Sx.cl, if_true]
    rw [hcl]
    by_cases hs : sw.size = 0
    · have hwe : sw = ⟨#[]⟩ := by
        apply ByteArray.ext
        exact Array.eq_empty_of_size_eq_zero hs
      by_cases h1 : 1 ≤ d
      · have hfin : (decide (sw.size = 0) && (decide (1 ≤ d) && cls (d - 1) ks)) = cls (d - 1) ks := by simp [hs, h1]
        rw [hfin]
        have e1 : sw.toList.isEmpty = true := by rw [ByteArray.toList_eq, hwe]; rfl
        have hdI : (1 : Int) ≤ (d : Int) := by omega
        have hd1 : ((d - 1 : Nat) : Int) = (d : Int) - 1 := by omega
        have HWK : Hid _ := wks_get hwks
        have HG : Hid _ := hget
        obtain ⟨N, hN⟩ : ∃ N, N = ks.length := ⟨_, rfl⟩
        have HN : Hid _ := hN
        have hN9 : (N : Int) ≤ 9223372036854775807 := by unfold maxLen at hml; omega
        have HD1 : Hid _ := hd1
        obtain ⟨F, hF⟩ : ∃ F, F = cls (d - 1) ks := ⟨_, rfl⟩
        have HF : Hid _ := hF
        rw [← hN, ← hF]
        clear hget hr' hsw hwks hcl hN hml hwe hs hfin hF hd1
        go_enter Tryd.func21, Tryd.ntmps21
        go_wp2_with fail
        go_loopw [5] (fun i wr => ∃ k : Nat, k ≤ N ∧ i = .int .i64 (k : Int) ∧ Hid (cls (d - 1) (ks.take k) = true) ∧ Hid (Below w.heap.size w wr) ∧ Hid (wr.cell? ⟨w.heap.size, 2, none⟩ = some (.slice a N c))) (fun i wr => N - (intOf i).toNat)
        case atStart => exact ⟨0, Nat.zero_le _, rfl, by unfold Hid; simp [cls], by unfold Hid; go_grown, by unfold Hid; simp⟩
        case round =>
          obtain ⟨k, hk, rfl, hC, hW, hX⟩ := hrel
          have hsr : w.heap.size ≤ wr.heap.size := hW.out.size
          have q1 := hX.out
          by_cases hlt : k < N
          · obtain ⟨y, hy⟩ : ∃ y, ks[k]? = some y := ⟨_, List.getElem?_eq_getElem (by rw [← HN.out]; exact hlt)⟩
            obtain ⟨g, o, uy, rfl, hDg, hgl, g0, g1, g2, hRy⟩ := HG.out k y hy
            have cc : ∀ i, wr.cell? ⟨g, i, none⟩ = w.cell? ⟨g, i, none⟩ := fun i => World.cell?_of_block (a := ⟨g, i, none⟩) (hW.out.block g (hD g hDg))
            have d0 : wr.cell? ⟨g, o + k * 3, none⟩ = some (.string y.w) := (cc _).trans g0
            have d1 : wr.cell? ⟨g, o + k * 3 + 1, none⟩ = some (.bool y.l) := (cc _).trans g1
            obtain ⟨ay, ny, cy, rfl⟩ := hRy.sl
            have d2 : wr.cell? ⟨g, o + k * 3 + 2, none⟩ = some (.slice ay ny cy) := (cc _).trans g2
            have hltI : (k : Int) < (N : Int) := by omega
            obtain ⟨Y, hYe⟩ : ∃ Y, Y = y.cl (d - 1) := ⟨_, rfl⟩
            have HSY : Hid (Calls Tryd.prog 21 #[.agg #[.string y.w, .bool y.l, .slice ay ny cy], .int .i64 ((d : Int) - 1)] wr fun e w' => e = .returned (.bool Y) ∧ Hid (Below w.heap.size w w') ∧ Hid (w'.cell? ⟨w.heap.size, 2, none⟩ = some (.slice (some ⟨g, o, none⟩) N c))) := by
              have h1 := IH.out y (List.mem_of_getElem? hy) (w := wr) (d := d - 1) (row_low hRy hD hW.out) (fun g hg => by have := hD g hg; omega) (HWK.out y (List.mem_of_getElem? hy)) (by omega)
              rw [HD1.out] at h1
              refine h1.mono ?_
              rintro e w' ⟨rfl, hb⟩
              refine ⟨by rw [hYe], hW.out.trans (hb.mono hsr), ?_⟩
              unfold Hid
              rw [hb.cell (p := ⟨w.heap.size, 2, none⟩) (World.block_lt_of_cell? _ _ q1)]; exact q1
            have HCT : Hid (cls (d - 1) (ks.take (k + 1)) = Y) := by unfold Hid; rw [cls_take hy, hC.out, hYe]; rfl
            have HNo : Hid (Y = false → F = false) := fun h => by rw [HF.out]; exact cls_not (List.mem_of_getElem? hy) (by rw [← hYe]; exact h)
            clear hy g0 g1 g2 hRy cc hYe
            go_wp2_with fail
            refine Calls.mono HSY.out ?_
            rintro e w2 ⟨rfl, hb3, hX2⟩
            cases Y
            · have hf := HNo.out rfl
              have HFF : Hid _ := hf
              clear hf
              go_wp2_with fail
              go_ret
              exact ⟨by rw [HFF.out]; rfl, hb3.out⟩
            · go_wp2_with fail
              exact ⟨⟨k + 1, by omega, rfl, HCT, hb3, hX2⟩, by simp [intOf]; omega⟩
          · obtain rfl : k = N := by omega
            have HT : Hid (F = true) := by
              have h2 := hC.out
              rw [HN.out, List.take_length] at h2
              unfold Hid
              rw [HF.out]; exact h2
            go_wp2_with fail
            go_ret
            exact ⟨by rw [HT.out]; rfl, hW.out⟩
      · have hfin : (decide (sw.size = 0) && (decide (1 ≤ d) && cls (d - 1) ks)) = false := by simp [h1]
        rw [hfin]
        have e1 : sw.toList.isEmpty = true := by rw [ByteArray.toList_eq, hwe]; rfl
        have hdI : (d : Int) < 1 := by omega
        obtain ⟨N, hN⟩ : ∃ N, N = ks.length := ⟨_, rfl⟩
        rw [← hN]
        clear hget hr' hsw hwks hcl hN hml hwe hs hfin IH h1 hd
        go_enter Tryd.func21, Tryd.ntmps21
        go_wp2_with fail
        go_ret
        exact ⟨rfl, by go_grown⟩
    · have hfin : (decide (sw.size = 0) && (decide (1 ≤ d) && cls (d - 1) ks)) = false := by simp [hs]
      rw [hfin]
      have e1 : sw.toList.isEmpty = false := by
        rw [ByteArray.toList_eq]
        cases h : sw.data.toList with
        | nil =>
          have := congrArg List.length h
          rw [len_t] at this
          exact absurd this hs
        | cons a r => rfl
      obtain ⟨N, hN⟩ : ∃ N, N = ks.length := ⟨_, rfl⟩
      rw [← hN]
      clear hget hr' hsw hwks hcl hN hml hs hfin IH
      go_enter Tryd.func21, Tryd.ntmps21
      go_wp2_with fail
      go_ret
      exact ⟨rfl, by go_grown⟩
termination_by SizeOf.sizeOf x
decreasing_by
  simp_wf
  have := List.sizeOf_lt_of_mem hy
  omega
end Go.Proofs.YtlpojfpfindpkaaDoor
