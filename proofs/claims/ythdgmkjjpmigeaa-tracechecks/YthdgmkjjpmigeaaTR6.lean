/- Contracts (traces): stepsOf. -/
import Derived.Test.YthdgmkjjpmigeaaTR5
namespace Go.Proofs.Ythdgmkjjpmigeaa
open Go.RowKit
set_option linter.unusedSimpArgs false
set_option linter.unusedVariables false

/-- A slice of these numbers that has room for them. -/
structure Sc (w : World) (v : Value) (l : List Int) : Prop where
  ex : ∃ a c, v = .slice a l.length c ∧ l.length ≤ c ∧ (l = [] ∨ ∃ r o, a = some ⟨r, o, none⟩ ∧ r < w.heap.size ∧ Li w r o l)
theorem Sc.sr {w : World} {v : Value} {l : List Int} (h : Sc w v l) : Sr w v l := by
  obtain ⟨a, c, e, -, h2⟩ := h.ex
  exact ⟨a, c, e, h2⟩
theorem Sc.below {w w' : World} {v : Value} {l : List Int} (h : Sc w v l) (hb : Below w.heap.size w w') : Sc w' v l := by
  obtain ⟨a, c, e, hc, h2⟩ := h.ex
  refine ⟨a, c, e, hc, ?_⟩
  rcases h2 with h2 | ⟨r, o, ha, hr, h2⟩
  · exact Or.inl h2
  · exact Or.inr ⟨r, o, ha, Nat.lt_of_lt_of_le hr hb.size, h2.below (hb.block r hr)⟩
theorem Sc.nil (w : World) (a : Option Addr) (c : Nat) : Sc w (.slice a 0 c) [] := ⟨_, _, rfl, Nat.zero_le _, Or.inl rfl⟩
theorem Is'.sc {w : World} {B : Nat} {v : Value} {l : List Int} (h : Is' w B v l) : Sc w v l := by
  obtain ⟨a, c, e, h2⟩ := h.sr.ex
  rcases h.2 with ⟨e1, h0⟩ | ⟨g, cap, cur, e1, -, -, hc, -⟩
  · rw [e1] at e
    injection e with e2 e3 e4
    exact ⟨none, 0, by rw [e1, h0], by omega, Or.inl (List.eq_nil_of_length_eq_zero h0)⟩
  · rw [e1] at e
    injection e with e2 e3 e4
    exact ⟨a, c, by rw [e1, e2, e4], by omega, h2⟩
theorem Sc.out {w : World} {v : Value} {l : List Int} (h : Sc w v l) : ∃ a c, v = .slice a l.length c ∧ l.length ≤ c := by
  obtain ⟨a, c, e, hc, -⟩ := h.ex
  exact ⟨a, c, e, hc⟩
theorem Sc.at' {w wr : World} {a : Option Addr} {n c : Nat} {l : List Int} (h : Sc w (.slice a n c) l) (hb : Below w.heap.size w wr) {k : Nat} (hk : k < l.length) : ∃ r o, a = some ⟨r, o, none⟩ ∧ wr.cell? ⟨r, o + k, none⟩ = some (.int .i64 (l.getD k 0)) := h.sr.at' hb hk
theorem Sc.take {w : World} {r o n c : Nat} {l : List Int} (h : Sc w (.slice (some ⟨r, o, none⟩) n c) l) {k : Nat} (hk : k ≤ l.length) : Sc w (.slice (some ⟨r, o, none⟩) k c) (l.take k) := by
  obtain ⟨a', c', e, hc, h2⟩ := h.ex
  injection e with e1 e2 e3
  subst e3
  have hlen : (l.take k).length = k := by rw [List.length_take]; omega
  refine ⟨_, c, by rw [hlen], by rw [hlen]; omega, ?_⟩
  rcases h2 with h2 | ⟨r', o', ha, hr, h2⟩
  · exact Or.inl (by rw [h2]; simp)
  · rw [← e1] at ha
    injection ha with ha
    injection ha with ha1 ha2
    subst ha1 ha2
    refine Or.inr ⟨r, o, rfl, hr, fun j hj => ?_⟩
    rw [hlen] at hj
    rw [List.getD_eq_getElem?_getD, List.getElem?_take_of_lt hj, ← List.getD_eq_getElem?_getD]
    exact h2 j (by omega)
theorem Sc.drop {w : World} {r o n c : Nat} {l : List Int} (h : Sc w (.slice (some ⟨r, o, none⟩) n c) l) {k : Nat} (hk : k ≤ l.length) : Sc w (.slice (some ⟨r, o + k, none⟩) (n - k) (c - k)) (l.drop k) := by
  obtain ⟨a', c', e, hc, h2⟩ := h.ex
  injection e with e1 e2 e3
  subst e3
  have hlen : (l.drop k).length = l.length - k := List.length_drop
  refine ⟨_, c - k, by rw [hlen, e2], by rw [hlen]; omega, ?_⟩
  rcases h2 with h2 | ⟨r', o', ha, hr, h2⟩
  · exact Or.inl (by rw [h2]; simp)
  · rw [← e1] at ha
    injection ha with ha
    injection ha with ha1 ha2
    subst ha1 ha2
    refine Or.inr ⟨r, o + k, rfl, hr, fun j hj => ?_⟩
    rw [hlen] at hj
    rw [List.getD_eq_getElem?_getD, List.getElem?_drop, ← List.getD_eq_getElem?_getD, Nat.add_assoc]
    exact h2 (k + j) (by omega)

/-- Numbers cut into steps. -/
def cutF : Nat → List (List Int) → List Int → List (List Int) × Bool
  | 0, C, l => (C, l.isEmpty)
  | _ + 1, _, [] => ([], false)
  | k + 1, C, x :: r => if (r.length : Int) < x then ([], false) else cutF k (C ++ [r.take x.toNat]) (r.drop x.toNat)

theorem Sc.tail {w : World} {r o n c : Nat} {x : Int} {l : List Int} (h : Sc w (.slice (some ⟨r, o, none⟩) n c) (x :: l)) : Sc w (.slice (some ⟨r, o + 1, none⟩) (n - 1) (c - 1)) l := by
  have := h.drop (k := 1) (by simp)
  simpa using this
set_option maxRecDepth 20000 in
set_option maxHeartbeats 12800000 in
theorem stepsOf_any {w : World} {u : Value} {L : List Int} (h : Sc w u L) (hl : L.length ≤ 10000) (hp : ∀ x ∈ L, 0 ≤ x) {M : Nat} (hM : M ≤ 2147483647) :
    Calls Try.prog 40 #[.int .i64 (M : Int), u] w fun ev w' => ∃ v', ev = .returned (.tuple #[v', .bool (cutF M [] L).2]) ∧ Lr w' v' (cutF M [] L).1 ∧ Below w.heap.size w w' := by
  obtain ⟨ti, ht0, hz0, hz1, hz2⟩ := info_any infoStep
  have HI : Hid _ := (⟨ht0, hz0, hz1, hz2⟩ : Try.prog.info? 57 = some ti ∧ ti.zero = _ ∧ ti.size = 1 ∧ ti.bytes = 24)
  clear ht0 hz0 hz1 hz2
  obtain ⟨Z, hZ⟩ : ∃ Z, Z = cutF M [] L := ⟨_, rfl⟩
  rw [← hZ]
  have HZ : Hid _ := hZ
  have HSC : Hid _ := h
  have HLL : Hid (L.length ≤ 10000 ∧ ∀ x ∈ L, 0 ≤ x) := ⟨hl, hp⟩
  obtain ⟨a0, c0, rfl, -⟩ := h.out
  obtain ⟨n0, hn0⟩ : ∃ n, n = L.length := ⟨_, rfl⟩
  rw [← hn0] at HSC ⊢
  clear h hl hp hZ hn0
  go_enter Try.func40, Try.ntmps40
  go_wp2_with fail
  go_loopw [1, 6, 9] (fun v q i wr => ∃ (k : Nat) (C : List (List Int)) (l : List Int), k ≤ M ∧ i = .int .i64 (k : Int) ∧ Hid (Ga 57 wr w.heap.size q C ∧ Below w.heap.size w wr ∧ Sc w v l ∧ Z = cutF (M - k) C l ∧ C.length + l.length ≤ 10000 ∧ ∀ x ∈ l, 0 ≤ x)) (fun v q i wr => M - (intOf i).toNat)
  case atStart => exact ⟨0, [], L, Nat.zero_le _, rfl, Ga.nil _ _ _, Below.refl _ _, HSC.out, HZ.out, by have := HLL.out.1; simpa using this, HLL.out.2⟩
  case round =>
    obtain ⟨k, C, l, hk, rfl, hH⟩ := hrel
    obtain ⟨q, hqq⟩ : ∃ q, q = u6 := ⟨_, rfl⟩
    obtain ⟨v, hvv⟩ : ∃ v, v = u1 := ⟨_, rfl⟩
    rw [← hqq, ← hvv] at hH ⊢
    clear hqq hvv
    obtain ⟨aq, cq, hq⟩ := hH.out.1.sl
    obtain ⟨nq, hnq⟩ : ∃ n, n = C.length := ⟨_, rfl⟩
    rw [← hnq] at hq
    have hnqb : nq ≤ 10000 := by have := hH.out.2.2.2.2.1; omega
    have HNQ : Hid _ := hnq
    obtain ⟨a, c, hv, hlc⟩ := hH.out.2.2.1.out
    obtain ⟨n, hn⟩ : ∃ n, n = l.length := ⟨_, rfl⟩
    rw [← hn] at hv hlc
    have hnb : n ≤ 10000 := by have := hH.out.2.2.2.2.1; omega
    have HN : Hid _ := hn
    subst hq hv
    clear hnq hn
    by_cases hlt : k < M
    · have hltI : (k : Int) < (M : Int) := by omega
      cases l with
      | nil =>
        obtain rfl : n = 0 := HN.out
        have HZZ : Hid (Z = ([], false)) := by
          unfold Hid
          rw [hH.out.2.2.2.1, show M - k = (M - k - 1) + 1 by omega]; rfl
        have HBW : Hid _ := hH.out.2.1
        clear hlc
        go_wp2_with fail
        go_ret2
        rw [HZZ.out]
        exact ⟨_, rfl, ⟨_, _, rfl, Or.inl rfl⟩, HBW.out⟩
      | cons x0 R =>
        obtain ⟨x, hx⟩ : ∃ x : Nat, x0 = (x : Int) := ⟨x0.toNat, by have := hH.out.2.2.2.2.2 x0 (by simp); omega⟩
        subst hx
        have hnR : n = R.length + 1 := HN.out
        have HRL : Hid (n = R.length + 1) := hnR
        obtain ⟨r, o, rfl, hck0⟩ := hH.out.2.2.1.at' (Below.refl _ _) (k := 0) (by simp)
        have hrw : r < w.heap.size := World.block_lt_of_cell? _ _ hck0
        have hck : wr.cell? ⟨r, o, none⟩ = some (.int .i64 (x : Int)) := bel_cell hH.out.2.1 hrw hck0
        have hn0 : ((n : Int) == 0) = false := by simp; omega
        have hn1 : (0 : Int) < (n : Int) := by omega
        have hn2 : 0 < n := by omega
        have hSR := hH.out.2.2.1.tail
        by_cases hge : n ≤ x
        · have hgeI : (n : Int) ≤ (x : Int) := by omega
          have HZZ : Hid (Z = ([], false)) := by
            unfold Hid
            rw [hH.out.2.2.2.1, show M - k = (M - k - 1) + 1 by omega, cutF, if_pos (by omega)]
          have HBW : Hid _ := hH.out.2.1
          clear hSR hck0 hnR
          go_wp2_with fail
          go_ret2
          rw [HZZ.out]
          exact ⟨_, rfl, ⟨_, _, rfl, Or.inl rfl⟩, HBW.out⟩
        · have hgeI : ¬ (n : Int) ≤ (x : Int) := by omega
          have hxb : x ≤ 10000 := by omega
          have HNX : Hid (Z = cutF (M - (k + 1)) (C ++ [R.take x]) (R.drop x)) := by
            unfold Hid
            rw [hH.out.2.2.2.1, show M - k = (M - (k + 1)) + 1 by omega, cutF, if_neg (by omega)]
            simp
          clear hck0 hnR
          have hx1 : (x : Int) + 1 ≤ (n : Int) := by omega
          have hx2 : (n : Int) ≤ (c : Int) := by omega
          have hx3 : (1 : Int) ≤ (x : Int) + 1 := by omega
          have hx4 : (x : Int) + 1 ≤ (c : Int) := by omega
          have hz0 := hH.out.2.1.size
          by_cases hc1 : c = 1
          · obtain rfl : x = 0 := by omega
            subst hc1
            have HS1 : Hid (Sc w (.slice (some ⟨r, o, none⟩) 0 0) (R.take 0)) := Sc.nil _ _ _
            have HS2 : Hid (Sc w (.slice (some ⟨r, o, none⟩) 0 0) (R.drop 0)) := by
              have e : R = [] := List.eq_nil_of_length_eq_zero (by have := HRL.out; omega)
              unfold Hid
              rw [e]; exact Sc.nil _ _ _
            have HCL : Hid _ := clone_sr (HS1.out.sr.below hH.out.2.1) (by rw [List.length_take]; omega)
            clear hSR
            go_wp2_with fail
            refine Calls.mono HCL.out ?_
            rintro ev w3 ⟨u3, rfl, hI3, hb3⟩
            obtain ⟨a3, n3, k3, hv3, -⟩ := own_sl hI3
            subst hv3
            have HB3 : Hid (Below w.heap.size w w3) := hH.out.2.1.trans (hb3.mono hH.out.2.1.size)
            have HG3 : Hid (Ga 57 w3 w.heap.size (.slice aq nq cq) C) := hH.out.1.below hb3
            have HU3 : Hid (Sf w3 (own (.slice aq nq cq)) (.slice a3 n3 k3) (R.take 0)) := hI3.sf fun r hr => (hH.out.1.low r hr).2
            clear hI3 hb3 HCL HS1 hck
            obtain ⟨us, hus, husl, hu3⟩ := HG3.out.ex
            have HUX : Hid (∀ (i : Nat) u c, us[i]? = some u → C[i]? = some c → Sf w3 (own (.slice aq nq cq)) u c) := hu3
            have HUS : Hid (w3.ownsRow w.heap.size 57 1 (.slice aq nq cq) nq us ∧ us.length = nq) := by
              have e1 : us.length = nq := by rw [husl, HNQ.out]
              exact ⟨by rw [← e1]; exact e1 ▸ hus, e1⟩
            clear hus husl hu3
            have hz3 := HB3.out.size
            go_wp2_with (at_builtin; refine wpList_append_own_at _ rfl _ _ 26 rfl w.heap.size 57 ti (.agg #[.slice none 0 0]) 1 24 underSteps HI.out.1 HI.out.2.1 HI.out.2.2.1 HI.out.2.2.2 rfl (by decide) (.slice aq nq cq) nq us rfl (row_kept HUS.out.1 (fun _ hq => heap_alloc_old _ _ hq)) ⟨w3.heap.size, 0, none⟩ 1 1 [.slice a3 n3 k3] rfl rfl (cell_one_new _ _ _) (by intro y hy; rw [List.mem_singleton.1 hy]; rfl) (by unfold maxLen; omega) (by omega) (by rw [size_alloc']; omega) ?_; intro v4 w4 hown hgrow hnil hat)
            have hG4 : Ga 57 w4 w.heap.size v4 (C ++ [R.take 0]) := Ga.app (by rw [HUS.out.2, HNQ.out]) HUX.out HU3.out hgrow (by rw [HUS.out.2]; exact hown) hat
            have hb4 : Below w.heap.size w w4 := low_grown HB3.out (by omega) hgrow (fun q e => (HUS.out.1.lt q e).1)
            refine ⟨⟨k + 1, C ++ [R.take 0], R.drop 0, by omega, by go_num, ⟨hG4, hb4, HS2.out, HNX.out, ?_, fun y hy => hH.out.2.2.2.2.2 y (List.mem_cons_of_mem _ (List.mem_of_mem_drop hy))⟩⟩, by simp [intOf]; omega⟩
            have h1 := hH.out.2.2.2.2.1
            rw [List.length_append, List.length_drop]
            simp at h1 ⊢
            omega
          · by_cases hc2 : c = x + 1
            · have HS1 : Hid (Sc w (.slice (some ⟨r, o + 1, none⟩) x (c - 1)) (R.take x)) := hSR.take (by have := HRL.out; omega)
              have HS2 : Hid (Sc w (.slice (some ⟨r, o, none⟩) 0 0) (R.drop x)) := by
                have e : R.drop x = [] := List.drop_eq_nil_of_le (by have := HRL.out; omega)
                unfold Hid
                rw [e]; exact Sc.nil _ _ _
              have HCL : Hid _ := clone_sr (HS1.out.sr.below hH.out.2.1) (by have := HRL.out; rw [List.length_take]; omega)
              obtain rfl : c = x + 1 := hc2
              rw [show x + 1 - 1 = x by omega] at HCL
              clear hSR
              go_wp2_with fail
              refine Calls.mono HCL.out ?_
              rintro ev w3 ⟨u3, rfl, hI3, hb3⟩
              obtain ⟨a3, n3, k3, hv3, -⟩ := own_sl hI3
              subst hv3
              have HB3 : Hid (Below w.heap.size w w3) := hH.out.2.1.trans (hb3.mono hH.out.2.1.size)
              have HG3 : Hid (Ga 57 w3 w.heap.size (.slice aq nq cq) C) := hH.out.1.below hb3
              have HU3 : Hid (Sf w3 (own (.slice aq nq cq)) (.slice a3 n3 k3) (R.take x)) := hI3.sf fun r hr => (hH.out.1.low r hr).2
              clear hI3 hb3 HCL HS1 hck
              obtain ⟨us, hus, husl, hu3⟩ := HG3.out.ex
              have HUX : Hid (∀ (i : Nat) u c, us[i]? = some u → C[i]? = some c → Sf w3 (own (.slice aq nq cq)) u c) := hu3
              have HUS : Hid (w3.ownsRow w.heap.size 57 1 (.slice aq nq cq) nq us ∧ us.length = nq) := by
                have e1 : us.length = nq := by rw [husl, HNQ.out]
                exact ⟨by rw [← e1]; exact e1 ▸ hus, e1⟩
              clear hus husl hu3
              have hz3 := HB3.out.size
              go_wp2_with (at_builtin; refine wpList_append_own_at _ rfl _ _ 26 rfl w.heap.size 57 ti (.agg #[.slice none 0 0]) 1 24 underSteps HI.out.1 HI.out.2.1 HI.out.2.2.1 HI.out.2.2.2 rfl (by decide) (.slice aq nq cq) nq us rfl (row_kept HUS.out.1 (fun _ hq => heap_alloc_old _ _ hq)) ⟨w3.heap.size, 0, none⟩ 1 1 [.slice a3 n3 k3] rfl rfl (cell_one_new _ _ _) (by intro y hy; rw [List.mem_singleton.1 hy]; rfl) (by unfold maxLen; omega) (by omega) (by rw [size_alloc']; omega) ?_; intro v4 w4 hown hgrow hnil hat)
              have hG4 : Ga 57 w4 w.heap.size v4 (C ++ [R.take x]) := Ga.app (by rw [HUS.out.2, HNQ.out]) HUX.out HU3.out hgrow (by rw [HUS.out.2]; exact hown) hat
              have hb4 : Below w.heap.size w w4 := low_grown HB3.out (by omega) hgrow (fun q e => (HUS.out.1.lt q e).1)
              refine ⟨⟨k + 1, C ++ [R.take x], R.drop x, by omega, by go_num, ⟨hG4, hb4, HS2.out, HNX.out, ?_, fun y hy => hH.out.2.2.2.2.2 y (List.mem_cons_of_mem _ (List.mem_of_mem_drop hy))⟩⟩, by simp [intOf]; omega⟩
              have h1 := hH.out.2.2.2.2.1
              rw [List.length_append, List.length_drop]
              simp at h1 ⊢
              omega
            · have HS1 : Hid (Sc w (.slice (some ⟨r, o + 1, none⟩) x (c - 1)) (R.take x)) := hSR.take (by have := HRL.out; omega)
              have HS2 : Hid (Sc w (.slice (some ⟨r, o + 1 + x, none⟩) (n - 1 - x) (c - 1 - x)) (R.drop x)) := hSR.drop (by have := HRL.out; omega)
              have HCL : Hid _ := clone_sr (HS1.out.sr.below hH.out.2.1) (by have := HRL.out; rw [List.length_take]; omega)
              clear hSR
              go_wp2_with fail
              refine Calls.mono HCL.out ?_
              rintro ev w3 ⟨u3, rfl, hI3, hb3⟩
              obtain ⟨a3, n3, k3, hv3, -⟩ := own_sl hI3
              subst hv3
              have HB3 : Hid (Below w.heap.size w w3) := hH.out.2.1.trans (hb3.mono hH.out.2.1.size)
              have HG3 : Hid (Ga 57 w3 w.heap.size (.slice aq nq cq) C) := hH.out.1.below hb3
              have HU3 : Hid (Sf w3 (own (.slice aq nq cq)) (.slice a3 n3 k3) (R.take x)) := hI3.sf fun r hr => (hH.out.1.low r hr).2
              clear hI3 hb3 HCL HS1 hck
              obtain ⟨us, hus, husl, hu3⟩ := HG3.out.ex
              have HUX : Hid (∀ (i : Nat) u c, us[i]? = some u → C[i]? = some c → Sf w3 (own (.slice aq nq cq)) u c) := hu3
              have HUS : Hid (w3.ownsRow w.heap.size 57 1 (.slice aq nq cq) nq us ∧ us.length = nq) := by
                have e1 : us.length = nq := by rw [husl, HNQ.out]
                exact ⟨by rw [← e1]; exact e1 ▸ hus, e1⟩
              clear hus husl hu3
              have hz3 := HB3.out.size
              go_wp2_with (at_builtin; refine wpList_append_own_at _ rfl _ _ 26 rfl w.heap.size 57 ti (.agg #[.slice none 0 0]) 1 24 underSteps HI.out.1 HI.out.2.1 HI.out.2.2.1 HI.out.2.2.2 rfl (by decide) (.slice aq nq cq) nq us rfl (row_kept HUS.out.1 (fun _ hq => heap_alloc_old _ _ hq)) ⟨w3.heap.size, 0, none⟩ 1 1 [.slice a3 n3 k3] rfl rfl (cell_one_new _ _ _) (by intro y hy; rw [List.mem_singleton.1 hy]; rfl) (by unfold maxLen; omega) (by omega) (by rw [size_alloc']; omega) ?_; intro v4 w4 hown hgrow hnil hat)
              have hG4 : Ga 57 w4 w.heap.size v4 (C ++ [R.take x]) := Ga.app (by rw [HUS.out.2, HNQ.out]) HUX.out HU3.out hgrow (by rw [HUS.out.2]; exact hown) hat
              have hb4 : Below w.heap.size w w4 := low_grown HB3.out (by omega) hgrow (fun q e => (HUS.out.1.lt q e).1)
              refine ⟨⟨k + 1, C ++ [R.take x], R.drop x, by omega, by go_num, ⟨hG4, hb4, by have h2 := HS2.out; rw [show o + 1 + x = o + (x + 1) by omega, show n - 1 - x = n - (x + 1) by omega, show c - 1 - x = c - (x + 1) by omega] at h2; exact h2, HNX.out, ?_, fun y hy => hH.out.2.2.2.2.2 y (List.mem_cons_of_mem _ (List.mem_of_mem_drop hy))⟩⟩, by simp [intOf]; omega⟩
              have h1 := hH.out.2.2.2.2.1
              rw [List.length_append, List.length_drop]
              simp at h1 ⊢
              omega
    · obtain rfl : k = M := by omega
      have hltI : ¬ (k : Int) < (k : Int) := by omega
      have HZZ : Hid (Z = (C, decide ((n : Int) = 0))) := by
        unfold Hid
        rw [hH.out.2.2.2.1, Nat.sub_self, HN.out]
        cases l with
        | nil => simp [cutF]
        | cons y t =>
          simp [cutF]
          try omega
      go_wp2_with fail
      go_ret2
      rw [HZZ.out]
      exact ⟨_, rfl, hH.out.1.lr, hH.out.2.1⟩
end Go.Proofs.Ythdgmkjjpmigeaa
