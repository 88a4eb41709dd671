/- Contracts (the law's helps): made. -/
import Derived.Test.YtkndjndhjdfhcaaST33
namespace Go.Proofs.Ytkndjndhjdfhcaa
open Go.RowKit
set_option linter.unusedSimpArgs false
set_option linter.unusedVariables false

/-- The clauses of a store that was told these lists. -/
def madeF (L : List (List Int)) : List (List Int) := L.foldl (fun C c => (addF 262144 C c).2.2) []
theorem madeF_take {L : List (List Int)} {k : Nat} {x : List Int} (h : L[k]? = some x) : madeF (L.take (k + 1)) = (addF 262144 (madeF (L.take k)) x).2.2 := by
  unfold madeF
  rw [List.take_add_one, h, List.foldl_append]; rfl
theorem addF_ok {mo : Nat} {C : List (List Int)} {c : List Int} (h : (addF mo C c).2.1 = 0) : (onceF c).1 = dd c ∧ (addF mo C c).2.2 = C ++ [dd c] := by
  unfold addF at h ⊢
  by_cases h1 : (onceF c).2 ≠ 0
  · rw [if_pos h1] at h; exact absurd h h1
  · rw [if_neg h1] at h ⊢
    have h3 := (once_ok (c := c) (by omega)).2
    by_cases h2 : mo < (ar C).length + 2 + (dd c).length
    · rw [if_pos h2] at h; simp at h
    · rw [if_neg h2]; exact ⟨h3, rfl⟩
theorem addF_no {mo : Nat} {C : List (List Int)} {c : List Int} (h : (addF mo C c).2.1 ≠ 0) : (addF mo C c).2.2 = C := by
  unfold addF at h ⊢
  by_cases h1 : (onceF c).2 ≠ 0
  · rw [if_pos h1]
  · rw [if_neg h1] at h ⊢
    by_cases h2 : mo < (ar C).length + 2 + (dd c).length
    · rw [if_pos h2]
    · rw [if_neg h2] at h; simp at h
theorem so_new {w w' : World} {s : Nat} {most : Int} (h : SX w' (fun k => w.heap.size ≤ k ∧ k < w'.heap.size) s (roomOf most) [] [0] [] []) : So w' (fun k => w.heap.size ≤ k ∧ k < w'.heap.size) s (roomOf most) [] :=
  ⟨⟨0, h, (fun c hc => nomatch hc), by omega⟩, (fun c hc => nomatch hc), Nat.zero_le _, by unfold roomOf; omega, fun k hk => hk.2⟩
set_option maxRecDepth 20000 in
set_option maxHeartbeats 12800000 in
theorem made_any {w : World} {v : Value} {L : List (List Int)} (h : Lr w v L) (hl : L.length ≤ 100000) (hc : ∀ x ∈ L, x.length ≤ 100000) :
    Calls Try.prog 22 #[v] w fun ev w' => ∃ (s : Nat) (v2 : Value) (F : Nat → Prop), ev = .returned (.tuple #[.pointer (some ⟨s, 0, none⟩), v2]) ∧ So w' F s 262144 (madeF L) ∧ Ll w' F w.heap.size v2 (madeF L) ∧ Below w.heap.size w w' ∧ ∀ k, F k → w.heap.size ≤ k := by
  obtain ⟨ti, ht0, hz0, hz1, hz2⟩ := info_any infoList
  have HI : Hid _ := (⟨ht0, hz0, hz1, hz2⟩ : Try.prog.info? 27 = some ti ∧ ti.zero = _ ∧ ti.size = 1 ∧ ti.bytes = 24)
  clear ht0 hz0 hz1 hz2
  obtain ⟨a, c0, rfl⟩ := h.out
  obtain ⟨n, hn⟩ : ∃ n, n = L.length := ⟨_, rfl⟩
  rw [← hn] at hl h ⊢
  have HC : Hid (Lr w (.slice a n c0) L) := h
  have HCC : Hid _ := hc
  have HN : Hid _ := hn
  have HNW : Hid _ := snew_any 262144 w
  have e262 : roomOf 262144 = 262144 := rfl
  rw [e262] at HNW
  clear h hc hn e262
  go_enter Try.func22, Try.ntmps22
  go_wp2_with fail
  refine Calls.mono HNW.out ?_
  rintro ev w1 ⟨rfl, hb1, hz1, hX1⟩
  have HS1 : Hid (So w1 (fun k => w.heap.size ≤ k ∧ k < w1.heap.size) (w.heap.size + 1) 262144 []) := so_new (most := 262144) hX1
  have HB1 : Hid (Below w.heap.size w w1) := hb1
  obtain ⟨s, hs⟩ : ∃ s, s = w.heap.size + 1 := ⟨_, rfl⟩
  rw [← hs] at HS1 ⊢
  clear hb1 hz1 hX1 hs HNW
  go_wp2_with fail
  go_loopw [5, 6] (fun q i wr => ∃ (k : Nat) (F : Nat → Prop), k ≤ n ∧ i = .int .i64 (k : Int) ∧ Hid (So wr F s 262144 (madeF (L.take k)) ∧ Ll wr F w.heap.size q (madeF (L.take k)) ∧ Below w.heap.size w wr ∧ ∀ k, F k → w.heap.size ≤ k)) (fun q i wr => n - (intOf i).toNat)
  case atStart => exact ⟨0, _, Nat.zero_le _, rfl, HS1.out, Ll.nil _ _ _, HB1.out, fun k hk => hk.1⟩
  case round =>
    obtain ⟨k, F, hk, rfl, hH⟩ := hrel
    have hz0 := hH.out.2.2.1.size
    obtain ⟨aq, cq, hq⟩ := hH.out.2.1.sl
    obtain ⟨nq0, hnq⟩ : ∃ n, n = (madeF (L.take k)).length := ⟨_, rfl⟩
    rw [← hnq] at hq
    subst hq
    have HNQ : Hid _ := hnq
    have hnqb : nq0 ≤ 131072 := by rw [hnq]; exact hH.out.1.len.1
    clear hnq
    by_cases hlt : k < n
    · have hltI : (k : Int) < (n : Int) := by omega
      obtain ⟨x, hx⟩ : ∃ x, L[k]? = some x := ⟨_, List.getElem?_eq_getElem (by rw [← HN.out]; exact hlt)⟩
      obtain ⟨r, o, u, rfl, hcu, hSr⟩ := (HC.out.below hH.out.2.2.1).at' hx
      have hxl := HCC.out x (List.mem_of_getElem? hx)
      have HMT : Hid _ := madeF_take hx
      have HAD : Hid _ := add_any hH.out.1 hSr hxl
      obtain ⟨au, nu, cu, hue⟩ : ∃ a n c, u = .slice a n c := by
        obtain ⟨a, c, e⟩ := hSr.out
        exact ⟨_, _, _, e⟩
      subst hue
      have HSR : Hid _ := hSr
      have hro : r < wr.heap.size := World.block_lt_of_cell? _ _ hcu
      have HCU : Hid _ := hcu
      obtain ⟨e, he⟩ : ∃ e, e = (addF 262144 (madeF (L.take k)) x).2.1 := ⟨_, rfl⟩
      obtain ⟨rf, hrf⟩ : ∃ e, e = (addF 262144 (madeF (L.take k)) x).1 := ⟨_, rfl⟩
      rw [← he, ← hrf] at HAD
      have HE : Hid _ := he
      have HLOW : Hid (r < w.heap.size ∧ Sr w (.slice au nu cu) x) := by
        obtain ⟨r', o', u', e1, e2, e3⟩ := HC.out.at' hx
        injection e1 with e1
        injection e1 with e1 e4
        subst e1 e4
        have h1 : r < w.heap.size := World.block_lt_of_cell? _ _ e2
        have h2 := bel_cell hH.out.2.2.1 h1 e2
        rw [HCU.out] at h2
        injection h2 with h2
        rw [h2]; exact ⟨h1, e3⟩
      clear hx hSr he hrf
      go_wp2_with fail
      refine Calls.mono HAD.out ?_
      rintro ev w2 ⟨rfl, F2, hS2, hC2⟩
      have hb2 : Below w.heap.size w w2 := hH.out.2.2.1.trans ((hC2.below hH.out.2.2.2 hz0))
      have HB2 : Hid (Below w.heap.size w w2) := hb2
      have HS2 : Hid _ := hS2
      have HC2 : Hid (Ch wr w2 F F2) := hC2
      have HLW : Hid (∀ k, F2 k → w.heap.size ≤ k) := hC2.low hH.out.2.2.2 hz0
      have HL2 : Hid (Ll w2 F2 w.heap.size (.slice aq nq0 cq) (madeF (L.take k))) := hH.out.2.1.ch hC2
      clear hS2 hC2 HAD
      by_cases he0 : e = 0
      · obtain ⟨a1, a2⟩ := addF_ok (by rw [← HE.out]; exact he0)
        have HA : Hid ((onceF x).1 = dd x ∧ (onceF x).2 = 0) := by
          refine ⟨a1, ?_⟩
          cases Classical.em ((onceF x).2 = 0) with
          | inl h => exact h
          | inr h =>
            exfalso
            have := HE.out
            rw [he0] at this
            unfold addF at this
            rw [if_pos h] at this
            exact h this.symm
        have HMK : Hid (madeF (L.take (k + 1)) = madeF (L.take k) ++ [dd x]) := HMT.out.trans a2
        have hcu2 : w2.cell? ⟨r, o + k, none⟩ = some (.slice au nu cu) := by
          have h1 : w.cell? ⟨r, o + k, none⟩ = some (.slice au nu cu) := by
            have := hH.out.2.2.1.cell (p := ⟨r, o + k, none⟩) HLOW.out.1
            rw [← this]; exact HCU.out
          exact bel_cell hb2 HLOW.out.1 h1
        have HKE : Hid _ := kept_any (HLOW.out.2.below hb2) hxl
        rw [HA.out.1, HA.out.2] at HKE
        subst he0
        clear a1 a2 hb2
        go_wp2_with fail
        refine Calls.mono HKE.out ?_
        rintro ev w3 ⟨u3, rfl, hI3, hb3⟩
        obtain ⟨a3, n3, k3, hv3, -⟩ := own_sl hI3
        subst hv3
        have hz2 := HB2.out.size
        have hz3 := hb3.size
        have HB3 : Hid (Below w.heap.size w w3) := HB2.out.trans (hb3.mono hz2)
        have HS3 : Hid _ := HS2.out.below hb3
        have HL3 : Hid (Ll w3 F2 w.heap.size (.slice aq nq0 cq) (madeF (L.take k))) := HL2.out.ch (Ch.of_below F2 hb3)
        have HI3 : Hid (Is' w3 w2.heap.size (.slice a3 n3 k3) (dd x)) := hI3
        have HF3 : Hid (∀ q, F2 q → q < w2.heap.size) := HS2.out.lt
        clear hI3 hb3 HKE
        obtain ⟨us, hus, husl, hu3, hu4⟩ := HL3.out.ex
        have HUX : Hid _ := And.intro hus (And.intro husl (And.intro hu3 hu4))
        clear hu3 hu4
        have HUS : Hid (w3.ownsRow w.heap.size 27 1 (.slice aq nq0 cq) nq0 us ∧ us.length = nq0) := by
          have e1 : us.length = nq0 := by rw [husl, HNQ.out]
          exact ⟨by rw [← e1]; exact e1 ▸ hus, e1⟩
        clear hus husl
        go_wp2_with (at_builtin; refine wpList_append_own_at _ rfl _ _ 22 rfl w.heap.size 27 ti (.slice none 0 0) 1 24 underLists HI.out.1 HI.out.2.1 HI.out.2.2.1 HI.out.2.2.2 rfl (by decide) (.slice aq nq0 cq) nq0 us rfl (row_kept HUS.out.1 (fun _ hq => heap_alloc_old _ _ hq)) ⟨w3.heap.size, 0, none⟩ 1 1 [.slice a3 n3 k3] rfl rfl (cell_one_new _ _ _) (by intro y hy; rw [List.mem_singleton.1 hy]; rfl) (by unfold maxLen; omega) (by omega) (by rw [size_alloc']; omega) ?_; intro v4 w4 hown hgrow hnil hat)
        have hL4 : Ll w4 F2 w.heap.size v4 (madeF (L.take k) ++ [dd x]) := Ll.app HUX.out (fun q hq => Nat.lt_of_lt_of_le (HF3.out q hq) hz3) (own_mono HI3.out hz2) (fun q e hf => by
          have h1 := (World.ownsRow.lt HI3.out q e).1
          have h2 := HF3.out q hf
          omega) hgrow (by rw [HUS.out.2]; exact hown) hat
        have hb4 : Below w.heap.size w w4 := low_grown HB3.out (by omega) hgrow (fun q e => (HUS.out.1.lt q e).1)
        have hS4 : So w4 F2 s 262144 (addF 262144 (madeF (L.take k)) x).2.2 := by
          have hg := grown_of hgrow
          refine HS3.out.kept hg.size (fun q hq hf => hg.block q hq (fun e => ?_))
          have h1 := HUX.out.2.2.2 q e.symm
          exact h1 hf
        refine ⟨⟨k + 1, F2, by omega, by go_num, by rw [HMT.out]; exact hS4, by rw [HMK.out]; exact hL4, hb4, HLW.out⟩, by simp [intOf]; omega⟩
      · have HMK : Hid (madeF (L.take (k + 1)) = madeF (L.take k)) := HMT.out.trans (addF_no (by rw [← HE.out]; exact he0))
        have hb0 : (e == 0) = false := by simp [he0]
        clear hb2
        go_wp2_with fail
        refine ⟨⟨k + 1, F2, by omega, by go_num, ?_, ?_, HB2.out, HLW.out⟩, by simp [intOf]; omega⟩
        · rw [HMT.out]; exact HS2.out
        · rw [HMK.out]; exact HL2.out
    · obtain rfl : k = n := by omega
      have hltI : ¬ (k : Int) < (k : Int) := by omega
      have hH2 := hH.out
      rw [HN.out, List.take_length] at hH2
      have HH2 : Hid _ := hH2
      clear hH2
      go_wp2_with fail
      go_ret2
      exact ⟨s, _, rfl, F, HH2.out.1, HH2.out.2.1, HH2.out.2.2.1, HH2.out.2.2.2⟩
end Go.Proofs.Ytkndjndhjdfhcaa
