/- Contracts (the law's helps): has. -/
import Derived.Test.YtkndjndhjdfhcaaST38
namespace Go.Proofs.Ytkndjndhjdfhcaa
open Go.RowKit
set_option linter.unusedSimpArgs false
set_option linter.unusedVariables false

/-- What the law's own has answers. -/
def has11 (C : List (List Int)) (c : List Int) : Bool := c.all okZ && C.any fun y => decide (set12 c = set12 y)
theorem isL_okZ {x : Int} (h : isL x = true) : okZ x = true := by
  unfold isL at h
  unfold okZ
  simp at h ⊢
  omega
theorem okc_all {y : List Int} (h : Okc y) : y.all okZ = true := List.all_eq_true.2 fun x hx => isL_okZ (h.lit x hx)
theorem set12_eq {c y : List Int} (hc : c.all okZ = true) (hy : y.all okZ = true) : set12 c = set12 y ↔ ∀ x, x ∈ c ↔ x ∈ y := by
  refine ⟨fun h x => ?_, set12_same⟩
  unfold set12 at h
  rw [if_pos hc, if_pos hy] at h
  rw [← setF_mem (c := c), ← setF_mem (c := y), h]
theorem hj_iff {l m : List Int} (hl : l.Nodup) (hm : m.Nodup) : hj l m = true ↔ ∀ x, x ∈ l ↔ x ∈ m := by
  unfold hj
  rw [Bool.and_eq_true, decide_eq_true_eq, List.all_eq_true]
  constructor
  · rintro ⟨h1, h2⟩ x
    have h3 : ∀ x ∈ l, x ∈ m := fun x hx => by simpa using h2 x hx
    refine ⟨h3 x, fun hx => ?_⟩
    refine Classical.byContradiction fun hn => ?_
    have := nodup_sub (T := x :: l) (S := m) (List.nodup_cons.2 ⟨hn, hl⟩) fun y hy => by
      rcases List.mem_cons.1 hy with e | e
      · rw [e]; exact hx
      · exact h3 y e
    simp at this
    omega
  · intro h
    refine ⟨?_, fun x hx => by simpa using (h x).1 hx⟩
    have h1 := nodup_sub hl fun x hx => (h x).1 hx
    have h2 := nodup_sub hm fun x hx => (h x).2 hx
    omega
theorem has_pure {C : List (List Int)} {c : List Int} (hC : ∀ x ∈ C, Okc x) : hasF C c = has11 C c := by
  rw [hasF_dd]
  unfold has11
  by_cases h0 : (onceF c).2 = 0
  · have hk := (once_ok h0).1
    have hall : c.all okZ = true := List.all_eq_true.2 fun x hx => isL_okZ (hk.lit x (mem_dd.2 hx))
    rw [decide_eq_true h0, hall, Bool.true_and, Bool.true_and, Bool.eq_iff_iff, List.any_eq_true, List.any_eq_true]
    refine ⟨fun ⟨y, hy, h⟩ => ⟨y, hy, ?_⟩, fun ⟨y, hy, h⟩ => ⟨y, hy, ?_⟩⟩
    · rw [hj_iff (hC y hy).once hk.once] at h
      exact decide_eq_true ((set12_eq hall (okc_all (hC y hy))).2 fun x => by rw [h x, mem_dd])
    · rw [hj_iff (hC y hy).once hk.once]
      intro x
      rw [mem_dd]
      exact ((set12_eq hall (okc_all (hC y hy))).1 (of_decide_eq_true h) x).symm
  · rw [decide_eq_false h0, Bool.false_and, eq_comm, Bool.and_eq_false_iff]
    by_cases hall : c.all okZ = true
    · right
      rw [List.any_eq_false]
      intro y hy h
      have hm := (set12_eq hall (okc_all (hC y hy))).1 (of_decide_eq_true h)
      apply h0
      unfold onceF
      have h1 : c.all isL = true := List.all_eq_true.2 fun x hx => (hC y hy).lit x ((hm x).1 hx)
      have h2 : ¬ opp c = true := fun h2 => by
        unfold opp at h2
        obtain ⟨x, hx, h3⟩ := List.any_eq_true.1 h2
        exact (hC y hy).opp x ((hm x).1 hx) ((hm (-x)).1 (of_decide_eq_true h3))
      rw [if_pos h1, if_neg h2]
    · left; simpa using hall
theorem any_take {C : List (List Int)} {k : Nat} {x : List Int} (p : List Int → Bool) (h : C[k]? = some x) : (C.take (k + 1)).any p = ((C.take k).any p || p x) := by
  rw [List.take_add_one, h]; simp
set_option maxRecDepth 20000 in
set_option maxHeartbeats 3200000 in
theorem has11_any {w : World} {F : Nat → Prop} {B : Nat} {va u : Value} {C : List (List Int)} {c : List Int} (hA : Ll w F B va C) (hF : ∀ k, F k → k < w.heap.size) (hu : Sr w u c) (hl : c.length ≤ 100000) (hn : C.length ≤ 131072) (hC : ∀ x ∈ C, x.length ≤ 100000) :
    Calls Try.prog 20 #[va, u] w fun ev w' => ev = .returned (.bool (has11 C c)) ∧ Below w.heap.size w w' := by
  obtain ⟨aa, ca, rfl⟩ := hA.sl
  obtain ⟨au, cu, hue⟩ := hu.out
  have HA : Hid _ := hA
  have HS : Hid _ := set12_any hu hl
  obtain ⟨nu, hnu⟩ : ∃ n, n = c.length := ⟨_, rfl⟩
  rw [← hnu] at hue
  subst hue
  have HNU : Hid (nu ≤ 100000) := by unfold Hid; omega
  obtain ⟨na, hna⟩ : ∃ n, n = C.length := ⟨_, rfl⟩
  rw [← hna] at hn HA ⊢
  have HNA : Hid _ := hna
  have HCL : Hid _ := hC
  have HCN : Hid (c.length ≤ 100000) := hl
  obtain ⟨R, hR⟩ : ∃ R, R = has11 C c := ⟨_, rfl⟩
  rw [← hR]
  have HR : Hid (R = has11 C c) := hR
  clear hnu hl hu hA hna hC hR
  go_enter Try.func20, Try.ntmps20
  go_wp2_with fail
  refine Calls.mono HS.out ?_
  rintro ev w1 ⟨x, rfl, hI1, hb1⟩
  obtain ⟨ax, nx, kx, hx, -⟩ := own_sl hI1
  subst hx
  obtain ⟨b, hb⟩ : ∃ b, b = c.all okZ := ⟨_, rfl⟩
  have HI1 : Hid (Is' w1 w.heap.size (.slice ax nx kx) (set12 c) ∧ Below w.heap.size w w1 ∧ b = c.all okZ) := ⟨hI1, hb1, hb⟩
  rw [← hb]
  clear hI1 hb1 hb HS
  go_wp2_with fail
  go_loopw [7] (fun i wr => ∃ (k : Nat), k ≤ na ∧ i = .int .i64 (k : Int) ∧ Hid (Below w1.heap.size w1 wr ∧ (C.take k).any (fun y => decide (set12 c = set12 y)) = false)) (fun i wr => na - (intOf i).toNat)
  case atStart => exact ⟨0, Nat.zero_le _, rfl, Below.refl _ _, rfl⟩
  case round =>
    obtain ⟨k, hk, rfl, hH⟩ := hrel
    have hbW : Below w.heap.size w wr := HI1.out.2.1.trans (hH.out.1.mono HI1.out.2.1.size)
    have HBW : Hid _ := hbW
    cases b with
    | false =>
      have hz : has11 C c = false := by unfold has11; rw [← HI1.out.2.2]; rfl
      have HZ : Hid (R = false) := HR.out.trans hz
      clear hbW hz
      go_wp2_with fail
      go_ret
      exact ⟨by rw [HZ.out]; rfl, HBW.out⟩
    | true =>
      by_cases hlt : k < na
      · have hltI : (k : Int) < (na : Int) := by omega
        obtain ⟨y, hy⟩ : ∃ y, C[k]? = some y := ⟨_, List.getElem?_eq_getElem (by rw [← HNA.out]; exact hlt)⟩
        obtain ⟨r, v, rfl, hcv, hIv⟩ := (HA.out.ch (Ch.of_below F hbW)).at' hy
        have hvs : Sr wr v y := (hIv.sf_low (F := fun _ => False) (fun _ h => h.elim)).sr
        have hyl := HCL.out y (List.mem_of_getElem? hy)
        have HS2 : Hid _ := set12_any hvs hyl
        obtain ⟨av, nv, kv, hve, -⟩ := own_sl hIv
        subst hve
        have hr : r < wr.heap.size := World.block_lt_of_cell? _ _ hcv
        have HY : Hid (C[k]? = some y) := hy
        have HYL : Hid (y.length ≤ 100000) := hyl
        clear hbW hIv hvs hy hyl
        go_wp2_with fail
        refine Calls.mono HS2.out ?_
        rintro ev w2 ⟨z, rfl, hI2, hb2⟩
        have HX2 : Hid (Sr w2 (.slice ax nx kx) (set12 c)) := ((HI1.out.1.sf_low (F := fun _ => False) (fun _ h => h.elim)).sr.below hH.out.1).below hb2
        have HIN : Hid _ := ints_sr HX2.out (hI2.sf_low (F := fun _ => False) (fun _ h => h.elim)).sr (by have := set12_le c; have := HCN.out; omega) (by have := set12_le y; have := HYL.out; have e : (if y.all okZ = true then setF y else []) = set12 y := rfl; rw [e]; omega)
        have HB2 : Hid (Below w1.heap.size w1 w2 ∧ Below w.heap.size w w2) := ⟨hH.out.1.trans (hb2.mono hH.out.1.size), HBW.out.trans (hb2.mono HBW.out.size)⟩
        obtain ⟨az, nz, kz, hze, -⟩ := own_sl hI2
        subst hze
        have e : (if y.all okZ = true then setF y else []) = set12 y := rfl
        rw [e] at HIN
        clear e hI2 hb2 HS2
        by_cases he : set12 c = set12 y
        · rw [decide_eq_true he] at HIN
          have hz : has11 C c = true := by
            unfold has11
            rw [← HI1.out.2.2, Bool.true_and, List.any_eq_true]
            exact ⟨y, List.mem_of_getElem? HY.out, decide_eq_true he⟩
          have HZ : Hid (R = true) := HR.out.trans hz
          clear he hz
          go_wp2_with fail
          refine Calls.mono HIN.out ?_
          rintro ev w3 ⟨rfl, hb3⟩
          have HB3 : Hid (Below w.heap.size w w3) := HB2.out.2.trans (hb3.mono HB2.out.2.size)
          clear hb3
          go_wp2_with fail
          go_ret
          exact ⟨by rw [HZ.out]; rfl, HB3.out⟩
        · rw [decide_eq_false he] at HIN
          have HNX : Hid ((C.take (k + 1)).any (fun y => decide (set12 c = set12 y)) = false) := by
            unfold Hid
            rw [any_take _ HY.out, hH.out.2, decide_eq_false he]; rfl
          clear he
          go_wp2_with fail
          refine Calls.mono HIN.out ?_
          rintro ev w3 ⟨rfl, hb3⟩
          have HB3 : Hid (Below w1.heap.size w1 w3) := HB2.out.1.trans (hb3.mono HB2.out.1.size)
          clear hb3
          go_wp2_with fail
          refine ⟨⟨k + 1, by omega, by go_num, HB3.out, HNX.out⟩, by simp [intOf]; omega⟩
      · obtain rfl : k = na := by omega
        have hltI : ¬ (k : Int) < (k : Int) := by omega
        have hz : has11 C c = false := by
          unfold has11
          have := hH.out.2
          rw [HNA.out, List.take_length] at this
          rw [this]; simp
        have HZ : Hid (R = false) := HR.out.trans hz
        clear hbW hz
        go_wp2_with fail
        go_ret
        exact ⟨by rw [HZ.out]; rfl, HBW.out⟩
end Go.Proofs.Ytkndjndhjdfhcaa
