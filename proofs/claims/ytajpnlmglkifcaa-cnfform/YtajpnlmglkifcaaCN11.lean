/- Contracts (the law's helps): lists of numbers copied, written over. -/
import Derived.Test.YtajpnlmglkifcaaCN10
namespace Go.Proofs.Ytajpnlmglkifcaa
open Go.RowKit
set_option linter.unusedSimpArgs false
set_option linter.unusedVariables false

/-- Lists of numbers, each in a row of its own; all of it lies from B on. -/
structure Ls (w : World) (B : Nat) (v : Value) (us : List Value) (C : List (List Int)) : Prop where
  row : w.ownsRow B 31 1 v us.length us
  len : us.length = C.length
  cl : ∀ (i : Nat) (u : Value) (c : List Int), us[i]? = some u → C[i]? = some c → Is' w B u c ∧ ∀ g, u.ownBlock = some g → v.ownBlock ≠ some g
theorem Ls.below {w w' : World} {B : Nat} {v : Value} {us : List Value} {C : List (List Int)} (h : Ls w B v us C) (hb : Below w.heap.size w w') : Ls w' B v us C :=
  ⟨row_kept h.row hb.block, h.len, fun i u c hu hc => ⟨row_kept (h.cl i u c hu hc).1 hb.block, (h.cl i u c hu hc).2⟩⟩
theorem Gt.ls {w : World} {B b : Nat} {v : Value} {us : List Value} {C : List (List Int)} (h : Gt w B b v us C) (hm : ∀ c ∈ C, c.length ≤ 100) : Ls w B v us C :=
  ⟨h.row, h.len, fun i u c hu hc => by
    obtain ⟨g, ⟨h1, h2, h3⟩, -, h5⟩ := h.cl i u c hu hc
    have hcl := hm c (List.mem_of_getElem? hc)
    refine ⟨⟨by simp, Or.inr ⟨g, c.length, _, h1, h2, h3, Nat.le_refl _, by unfold maxLen; omega, by simp, by rw [Nat.mul_one]; exact List.take_of_length_le (by simp)⟩⟩, fun q hq => ?_⟩
    rw [h1] at hq
    have : g = q := by injection hq
    rw [← this]; exact h5⟩
set_option maxRecDepth 20000 in
set_option maxHeartbeats 3200000 in
theorem copyInts_any {w : World} {B : Nat} {u : Value} {c : List Int} (h : Is' w B u c) (hc : c ≠ []) (hl : c.length ≤ 1000) :
    Calls Try.prog 37 #[u] w fun ev w' => ∃ u', ev = .returned u' ∧ Is' w' w.heap.size u' c ∧ u' ≠ .slice none 0 0 ∧ Below w.heap.size w w' := by
  obtain ⟨ti, ht0, hz0, hz1, hz2⟩ := info_any infoInt
  have HI : Hid _ := (⟨ht0, hz0, hz1, hz2⟩ : Try.prog.info? 3 = some ti ∧ ti.zero = _ ∧ ti.size = 1 ∧ ti.bytes = 8)
  obtain ⟨r, cap, rfl, -, -, hL⟩ := h.li hc
  have HL : Hid _ := hL
  have HC : Hid _ := hc
  obtain ⟨n, hn⟩ : ∃ n, n = c.length := ⟨_, rfl⟩
  have HN : Hid _ := hn
  rw [← hn] at hl ⊢
  clear h hL ht0 hz0 hz1 hz2 hn hc
  go_enter Try.func37, Try.ntmps37
  go_wp2_with (at_builtin; refine wpList_append_own_at _ rfl _ _ 31 rfl w.heap.size 3 ti (.int .i64 0) 1 8 underInts HI.out.1 HI.out.2.1 HI.out.2.2.1 HI.out.2.2.2 rfl (by decide) (.slice none 0 0) 0 [] rfl (World.ownsRow_nil _ _ _ _) ⟨r, 0, none⟩ n cap (c.map (Value.int .i64)) rfl (by rw [List.length_map, HN.out]; omega) (fun j y hj => by
    have hjl : j < c.length := by have := (List.getElem?_eq_some_iff.1 hj).1; simpa using this
    have h1 := HL.out j hjl
    rw [Nat.zero_add] at h1
    have e : (⟨r, 0, none⟩ : Addr).add j = ⟨r, j, none⟩ := by simp [Addr.add]; try (intro hq; exact hq.symm)
    rw [e, h1, ← hj, List.getElem?_map, List.getD_eq_getElem?_getD, List.getElem?_eq_getElem hjl]; rfl) (ones c) (by unfold maxLen; omega) (by omega) (Nat.le_refl _) ?_; intro v1 w1 hown hgrow hnil hat)
  go_ret
  refine ⟨v1, rfl, ?_, ?_, ?_⟩
  · unfold Is'
    rw [← HN.out]
    simpa using hown
  · intro e
    have := (hnil.1 e).2
    have := HN.out
    exact HC.out (List.eq_nil_of_length_eq_zero (by omega))
  · exact ⟨hgrow.os, hgrow.tape, hgrow.output, hgrow.size, fun b hb => hgrow.block b hb (fun e => by cases e)⟩
set_option maxRecDepth 20000 in
set_option maxHeartbeats 12800000 in
theorem copyLists_any {w : World} {B : Nat} {v : Value} {us : List Value} {C : List (List Int)} (h : Ls w B v us C) (hc : ∀ c ∈ C, c ≠ [] ∧ c.length ≤ 1000) (hl : C.length ≤ 90000) :
    Calls Try.prog 21 #[v] w fun ev w' => ∃ v' us', ev = .returned v' ∧ Ls w' w.heap.size v' us' C ∧ Below w.heap.size w w' := by
  obtain ⟨ti, ht0, hz0, hz1, hz2⟩ := info_any infoList
  have HI : Hid _ := (⟨ht0, hz0, hz1, hz2⟩ : Try.prog.info? 31 = some ti ∧ ti.zero = _ ∧ ti.size = 1 ∧ ti.bytes = 24)
  obtain ⟨n, hn⟩ : ∃ n, n = C.length := ⟨_, rfl⟩
  obtain ⟨av, cv, hv⟩ : ∃ a c, v = .slice a n c := by
    rcases h.row.2 with ⟨e1, h0⟩ | ⟨g, cap, cur, e1, -⟩
    · exact ⟨none, 0, by rw [e1, hn, ← h.len, h0]⟩
    · exact ⟨_, _, by rw [e1, h.len, hn]⟩
  subst hv
  have H : Hid _ := h
  have HC : Hid _ := hc
  have HN : Hid _ := hn
  rw [← hn] at hl
  clear h hc hn ht0 hz0 hz1 hz2
  go_enter Try.func21, Try.ntmps21
  go_wp2_with fail
  go_loopw [3, 4] (fun u3 i wr => ∃ k : Nat, k ≤ n ∧ i = .int .i64 (k : Int) ∧ ∃ us', Hid (Ls wr w.heap.size u3 us' (C.take k) ∧ Below w.heap.size w wr)) (fun u3 i wr => n - (intOf i).toNat)
  case atStart => exact ⟨0, Nat.zero_le _, rfl, [], ⟨World.ownsRow_nil _ _ _ _, rfl, fun i u c hu _ => by simp at hu⟩, Below.refl _ _⟩
  case round =>
    obtain ⟨k, hk, rfl, us', hH⟩ := hrel
    have hul : us'.length = k := by rw [hH.out.1.len, List.length_take]; have := HN.out; omega
    by_cases hlt : k < n
    · obtain ⟨c, hck⟩ : ∃ c, C[k]? = some c := ⟨_, List.getElem?_eq_getElem (by rw [← HN.out]; exact hlt)⟩
      obtain ⟨u, huk⟩ : ∃ u, us[k]? = some u := ⟨_, List.getElem?_eq_getElem (by rw [H.out.len, ← HN.out]; exact hlt)⟩
      obtain ⟨hcu, -⟩ := H.out.cl k u c huk hck
      obtain ⟨hc1, hc2⟩ := HC.out c (List.mem_of_getElem? hck)
      obtain ⟨r, dx⟩ : ∃ r, av = some ⟨r, 0, none⟩ ∧ wr.cell? ⟨r, k, none⟩ = some u := by
        rcases H.out.row.2 with ⟨e1, h0⟩ | ⟨g, cap, cur, e1, hb, hg, hcp, hm, hs, ht⟩
        · exfalso; have := H.out.len; have := HN.out; omega
        · refine ⟨g, by injection e1, ?_⟩
          have h2 : (cur.toList.take (us.length * 1))[k]? = some u := by rw [ht]; exact huk
          rw [List.getElem?_take_of_lt (by have := H.out.len; have := HN.out; omega)] at h2
          exact bel_cell hH.out.2 (Array.getElem?_eq_some_iff.1 hg).1 (cell_of hg k (by simpa using h2))
      obtain ⟨rfl, dx⟩ := dx
      obtain ⟨r2, c2, hu2, -, -, -⟩ := hcu.li hc1
      have HCP : Hid _ := copyInts_any (row_kept hcu (fun q hq => hH.out.2.block q hq)) hc1 hc2
      have HTK : Hid (C.take (k + 1) = C.take k ++ [c]) := by unfold Hid; rw [List.take_add_one, hck]; rfl
      have hltI : (k : Int) < (n : Int) := by omega
      have hsr := hH.out.2.size
      subst hu2
      clear hck huk hcu
      go_wp2_with fail
      refine Calls.mono HCP.out ?_
      rintro ev w2 ⟨u2, rfl, hI2, hn2, hb2⟩
      obtain ⟨a2, k2, rfl, -⟩ := hI2.slice
      have HI2 : Hid (Is' w2 wr.heap.size (.slice a2 c.length k2) c) := hI2
      have HL2 : Hid (Ls w2 w.heap.size u3 us' (C.take k)) := hH.out.1.below hb2
      have HB2 : Hid (Below w.heap.size w w2) := hH.out.2.trans (hb2.mono hsr)
      have hs2 : wr.heap.size ≤ w2.heap.size := hb2.size
      obtain ⟨m, hm⟩ : ∃ m, m = c.length := ⟨_, rfl⟩
      rw [← hm] at HI2 ⊢
      clear hI2 hn2 hb2 dx HCP hm
      go_wp2_with (at_builtin; refine wpList_append_own_at _ rfl _ _ 30 rfl w.heap.size 31 ti (.slice none 0 0) 1 24 underLists HI.out.1 HI.out.2.1 HI.out.2.2.1 HI.out.2.2.2 rfl (by decide) u3 us'.length us' rfl (row_kept HL2.out.row (fun _ hq => heap_alloc_old _ _ hq)) ⟨w2.heap.size, 0, none⟩ 1 1 [.slice a2 m k2] rfl rfl (cell_one_new _ _ _) (by intro y hy; rw [List.mem_singleton.1 hy]; rfl) (by unfold maxLen; omega) (by omega) (by rw [size_alloc']; omega) ?_; intro v3 w3 hown hgrow hnil hat)
      have hb3 : Below w.heap.size w w3 := low_grown HB2.out (by omega) hgrow (fun q hq => (HL2.out.row.lt q hq).1)
      have hold : ∀ q, q < w2.heap.size → u3.ownBlock ≠ some q → w3.heap[q]? = w2.heap[q]? := fun q hq hn => (hgrow.block q (by rw [size_alloc']; omega) (fun e => hn e.symm)).trans (heap_alloc_old _ _ hq)
      have hnew : ∀ q, q < w2.heap.size → u3.ownBlock ≠ some q → v3.ownBlock ≠ some q := fun q hq hn e => by
        rcases hat with e2 | e2
        · exact hn (e2.symm.trans e)
        · rw [e2, size_alloc'] at e
          injection e with e
          omega
      have HLS : Hid (Ls w3 w.heap.size v3 (us' ++ [.slice a2 m k2]) (C.take (k + 1))) := by
        unfold Hid
        rw [HTK.out]
        refine ⟨by rw [List.length_append]; exact hown, by rw [List.length_append, List.length_append, HL2.out.len]; rfl, fun i y c' hy hc' => ?_⟩
        by_cases hi : i < us'.length
        · rw [List.getElem?_append_left hi] at hy
          rw [List.getElem?_append_left (by rw [← HL2.out.len]; exact hi)] at hc'
          obtain ⟨e1, e2⟩ := HL2.out.cl i y c' hy hc'
          exact ⟨row_own e1 (fun q hq => hold q (e1.lt q hq).2 (e2 q hq)), fun q hq => hnew q (e1.lt q hq).2 (e2 q hq)⟩
        · have hil := (List.getElem?_eq_some_iff.1 hy).1
          rw [List.length_append] at hil
          have hie : i = us'.length := by simp at hil; omega
          subst hie
          rw [List.getElem?_append_right (Nat.le_refl _), Nat.sub_self] at hy
          rw [HL2.out.len, List.getElem?_append_right (Nat.le_refl _), Nat.sub_self] at hc'
          obtain rfl : c = c' := by simpa using hc'
          obtain rfl : Value.slice a2 m k2 = y := by simpa using hy
          have hu3 : ∀ q, (Value.slice a2 m k2).ownBlock = some q → u3.ownBlock ≠ some q := fun q hq e => by
            have h4 := (HI2.out.lt q hq).1
            have h5 := (hH.out.1.row.lt q e).2
            omega
          exact ⟨own_mono (row_own HI2.out (fun q hq => hold q (HI2.out.lt q hq).2 (hu3 q hq))) hsr, fun q hq => hnew q (HI2.out.lt q hq).2 (hu3 q hq)⟩
      clear hown hgrow hnil hat hold hnew
      (try go_wp2_with fail)
      exact ⟨⟨k + 1, by omega, by go_num, _, HLS.out, hb3⟩, by simp [intOf]; omega⟩
    · obtain rfl : k = n := by omega
      have hltI : ¬ (k : Int) < (k : Int) := by omega
      go_wp2_with fail
      go_ret
      have h1 := hH.out.1
      rw [HN.out, List.take_length] at h1
      exact ⟨u3, rfl, ⟨us', h1⟩, hH.out.2⟩
end Go.Proofs.Ytajpnlmglkifcaa
