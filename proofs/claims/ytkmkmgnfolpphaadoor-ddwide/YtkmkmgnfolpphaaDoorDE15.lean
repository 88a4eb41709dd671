/- Contracts (dd): Eval. -/
import Derived.Test.YtkmkmgnfolpphaaDoorDE14
namespace Go.Proofs.YtkmkmgnfolpphaaDoor
open Go.RowKit
set_option linter.unusedSimpArgs false
set_option linter.unusedVariables false

/-- v is a readable slice of truths. -/
structure Bz (w : World) (v : Value) (l : List Bool) : Prop where
  ex : ∃ a c, v = .slice a l.length c ∧ (l = [] ∨ ∃ r o, a = some ⟨r, o, none⟩ ∧ r < w.heap.size ∧ ∀ j, j < l.length → w.cell? ⟨r, o + j, none⟩ = some (.bool (l.getD j false)))
theorem Bz.bel {w w' : World} {v : Value} {l : List Bool} (h : Bz w v l) (hb : Below w.heap.size w w') : Bz w' v l := by
  obtain ⟨a, c, e, h2⟩ := h.ex
  refine ⟨a, c, e, ?_⟩
  rcases h2 with h2 | ⟨r, o, h3, h4, h5⟩
  · exact Or.inl h2
  · exact Or.inr ⟨r, o, h3, Nat.lt_of_lt_of_le h4 hb.size, fun j hj => by rw [hb.cell (p := ⟨r, o + j, none⟩) h4]; exact h5 j hj⟩
/-- The assignment that a list of truths is. -/
def asg (l : List Bool) : Int → Bool := fun k => l.getD k.toNat false
set_option maxRecDepth 20000 in
set_option maxHeartbeats 3200000 in
theorem eval_any {w : World} {F : Nat → Prop} {g vars most : Nat} {S : St} {pn : Int → Int} (h : Gr w F g vars most S pn) (f : Int) {v : Value} {l : List Bool} (hv : Bz w v l) :
    Calls Tryd.prog 8 #[.pointer (some ⟨g, 0, none⟩), .int .i64 f, v] w fun e w' => e = .returned (.tuple (if alive S.ns f then (if l.length = vars then #[.bool (val vars S.ns (asg l) f), .int .i64 0] else #[.bool false, .int .i64 142]) else #[.bool false, .int .i64 140])) ∧ Below w.heap.size w w' := by
  have HH : Hid _ := has_any h f
  by_cases ha : alive S.ns f
  · rw [if_pos ha]
    have HH2 : Hid (Calls Tryd.prog 38 #[.pointer (some ⟨g, 1, none⟩), .int .i64 f] w fun e w' => e = .returned (.bool true) ∧ w' = w) := by
      have := HH.out
      rwa [decide_eq_true ha] at this
    have HG : Hid (Gr w F g vars most S pn) := h
    have hvr := h.mg.vr
    have good := h.mg.good
    have HGOOD : Hid _ := good
    obtain ⟨m, p, vn, u, hx, -⟩ := h
    have hg := hx.lt
    have c0 := hx.c0
    have c2 := hx.c2
    have hl := hx.mg.len
    have hmo := hx.mg.mo
    obtain ⟨r, cap, rfl, hrl, -, -, hc⟩ := hx.sl
    have HC : Hid _ := hc
    have HC0 : Hid (w.cell? ⟨g, 0, none⟩ = _) := c0
    have HC2 : Hid (w.cell? ⟨g, 2, none⟩ = _) := c2
    obtain ⟨va, vc, rfl, hvv⟩ := hv.ex
    have HVV : Hid _ := hvv
    by_cases hll : l.length = vars
    · rw [if_pos hll]
      have hq : ((l.length : Int) != (vars : Int)) = false := by simp [hll]
      obtain ⟨M, hM⟩ : ∃ M, M = l.length := ⟨_, rfl⟩
      rw [← hM] at hq hll ⊢
      have HM : Hid _ := hM
      obtain ⟨Z, hZ⟩ : ∃ Z, Z = val vars S.ns (asg l) f := ⟨_, rfl⟩
      rw [← hZ]
      have HZ : Hid _ := hZ
      have hMV : M ≤ 4096 := by omega
      have HLL : Hid (M = vars) := hll
      have hqq : ((M : Int) == (vars : Int)) = true := by simp [hll]
      have HA : Hid (alive S.ns f) := ha
      clear hx hc hvv hM hZ hv ha HH good hll
      go_enter Tryd.func8, Tryd.ntmps8
      go_wp2_with fail
      refine HH2.out.mono ?_
      rintro e w0 ⟨rfl, hw0⟩
      rw [hw0]
      clear hw0 w0
      go_wp2_with fail
      clear c0 c2 hq hqq
      go_loopw [1] (fun i wr => ∃ x : Int, i = .int .i64 x ∧ Hid (alive S.ns x ∧ val vars S.ns (asg l) x = Z) ∧ Below w.heap.size w wr) (fun i wr => ((vars : Int) - (at3 S.ns (intOf i)).1).toNat)
      case atStart => exact ⟨f, rfl, ⟨HA.out, HZ.out.symm⟩, Below.refl _ _⟩
      case round =>
        obtain ⟨x, rfl, hH, hB⟩ := hrel
        have HI : Hid _ := isNode_any x
        by_cases h2 : 2 ≤ x
        · have HI2 : Hid (∀ wx, Calls Tryd.prog 39 #[.int .i64 x] wx fun e w' => e = .returned (.bool true) ∧ w' = wx) := fun wx => by
            have := HI.out wx
            rwa [decide_eq_true (by omega)] at this
          obtain ⟨ha, hval⟩ := hH.out
          obtain ⟨q1, q2, q3, q4, q5, q6, q7⟩ := HGOOD.out.nd x h2 ha
          obtain ⟨j, rfl, hj⟩ := ha.nat
          obtain ⟨k0, k1, k2⟩ := HC.out j hj
          have hvs := val_step HGOOD.out (asg l) ha h2
          obtain ⟨V, hV⟩ : ∃ V : Nat, (at3 S.ns (j : Int)).1 = (V : Int) := ⟨(at3 S.ns (j : Int)).1.toNat, by omega⟩
          obtain ⟨Lo, hLo⟩ : ∃ V, V = (at3 S.ns (j : Int)).2.1 := ⟨_, rfl⟩
          obtain ⟨Hi, hHi⟩ : ∃ V, V = (at3 S.ns (j : Int)).2.2 := ⟨_, rfl⟩
          rw [hV] at k0
          rw [← hLo] at k1
          rw [← hHi] at k2
          replace k0 := bel_cell hB hrl k0
          replace k1 := bel_cell hB hrl k1
          replace k2 := bel_cell hB hrl k2
          have d2 := bel_cell hB hg HC2.out
          have hVM : V < M := by have := HLL.out; omega
          have hVI : (V : Int) < (M : Int) := by omega
          obtain ⟨N, hN⟩ : ∃ N, N = S.ns.length := ⟨_, rfl⟩
          rw [← hN] at d2
          have hjI : (j : Int) < (N : Int) := by omega
          have hNb : N ≤ 20000 := by omega
          obtain ⟨b, hb⟩ : ∃ b, b = l.getD V false := ⟨_, rfl⟩
          obtain ⟨rv, ov, hva, hrv, hcv⟩ : ∃ r o, va = some ⟨r, o, none⟩ ∧ r < w.heap.size ∧ wr.cell? ⟨r, o + V, none⟩ = some (.bool b) := by
            rcases HVV.out with h | ⟨r, o, h3, h4, h5⟩
            · exfalso; rw [h] at HM; have := HM.out; simp at this; omega
            · refine ⟨r, o, h3, h4, ?_⟩
              rw [hB.cell (p := ⟨r, o + V, none⟩) h4, hb]
              exact h5 V (by rw [← HM.out]; exact hVM)
          subst hva
          have hasg : asg l ((at3 S.ns (j : Int)).1) = b := by rw [hV, hb]; unfold asg; rw [Int.toNat_natCast]
          have HNX : Hid (val vars S.ns (asg l) (if b then Hi else Lo) = Z ∧ alive S.ns (if b then Hi else Lo) ∧ ((vars : Int) - (at3 S.ns (if b then Hi else Lo)).1).toNat < ((vars : Int) - (at3 S.ns (j : Int)).1).toNat) := by
            rw [hasg] at hvs
            rw [← hval, hvs, hLo, hHi]
            cases b
            · exact ⟨rfl, q4, by have := (HGOOD.out.var q4).2; simp only [Bool.false_eq_true, if_false]; omega⟩
            · exact ⟨rfl, q5, by have := (HGOOD.out.var q5).2; simp only [if_true]; omega⟩
          have hne : wr.heap.size ≠ rv := by have := hB.size; omega
          have hlt : rv < wr.heap.size := by have := hB.size; omega
          have hsz := hB.size
          clear hH ha hval q1 q2 q3 q4 q5 q6 q7 hvs hV hLo hHi hN hb hasg HI hj
          cases b with
          | true =>
            have HNX2 : Hid (val vars S.ns (asg l) Hi = Z ∧ alive S.ns Hi ∧ ((vars : Int) - (at3 S.ns Hi).1).toNat < ((vars : Int) - (at3 S.ns (j : Int)).1).toNat) := HNX.out
            clear HNX
            go_wp2_with fail
            refine (HI2.out _).mono ?_
            rintro e w0 ⟨rfl, hw0⟩
            rw [hw0]
            clear hw0 w0
            go_wp2_with fail
            exact ⟨⟨Hi, rfl, ⟨HNX2.out.2.1, HNX2.out.1⟩, by go_grown⟩, by simp only [intOf]; exact HNX2.out.2.2⟩
          | false =>
            have HNX2 : Hid (val vars S.ns (asg l) Lo = Z ∧ alive S.ns Lo ∧ ((vars : Int) - (at3 S.ns Lo).1).toNat < ((vars : Int) - (at3 S.ns (j : Int)).1).toNat) := HNX.out
            clear HNX
            go_wp2_with fail
            refine (HI2.out _).mono ?_
            rintro e w0 ⟨rfl, hw0⟩
            rw [hw0]
            clear hw0 w0
            go_wp2_with fail
            exact ⟨⟨Lo, rfl, ⟨HNX2.out.2.1, HNX2.out.1⟩, by go_grown⟩, by simp only [intOf]; exact HNX2.out.2.2⟩
        · have HI2 : Hid (∀ wx, Calls Tryd.prog 39 #[.int .i64 x] wx fun e w' => e = .returned (.bool false) ∧ w' = wx) := fun wx => by
            have := HI.out wx
            rwa [decide_eq_false (by omega)] at this
          have HE : Hid ((x == 1) = Z) := by
            unfold Hid
            rw [← hH.out.2, val_le (by omega)]
            by_cases e : x = 1 <;> simp [e]
          clear HI hH
          go_wp2_with fail
          refine (HI2.out _).mono ?_
          rintro e w0 ⟨rfl, hw0⟩
          rw [hw0]
          clear hw0 w0
          go_wp2_with fail
          refine bodyPost_ret (v := .tuple #[.bool (x == 1), .int .i64 0]) (by simp [results, Tryd.results8, go_sem]) rfl ?_
          rw [HE.out]
          exact ⟨rfl, hB⟩
    · rw [if_neg hll]
      have hq : ((l.length : Int) == (vars : Int)) = false := by simp; omega
      obtain ⟨M, hM⟩ : ∃ M, M = l.length := ⟨_, rfl⟩
      rw [← hM] at hq ⊢
      clear hx hc hvv hM hv ha HH good hll
      go_enter Tryd.func8, Tryd.ntmps8
      go_wp2_with fail
      refine HH2.out.mono ?_
      rintro e w0 ⟨rfl, hw0⟩
      rw [hw0]
      clear hw0 w0
      go_wp2_with fail
      refine bodyPost_ret (v := .tuple #[.bool false, .int .i64 142]) (by simp [results, Tryd.results8, go_sem]) rfl ?_
      exact ⟨rfl, Below.refl _ _⟩
  · rw [if_neg ha]
    have HH2 : Hid (Calls Tryd.prog 38 #[.pointer (some ⟨g, 1, none⟩), .int .i64 f] w fun e w' => e = .returned (.bool false) ∧ w' = w) := by
      have := HH.out
      rwa [decide_eq_false ha] at this
    clear HH h ha hv
    go_enter Tryd.func8, Tryd.ntmps8
    go_wp2_with fail
    refine HH2.out.mono ?_
    rintro e w0 ⟨rfl, hw0⟩
    rw [hw0]
    clear hw0 w0
    go_wp2_with fail
    refine bodyPost_ret (v := .tuple #[.bool false, .int .i64 140]) (by simp [results, Tryd.results8, go_sem]) rfl ?_
    exact ⟨rfl, Below.refl _ _⟩
end Go.Proofs.YtkmkmgnfolpphaaDoor
