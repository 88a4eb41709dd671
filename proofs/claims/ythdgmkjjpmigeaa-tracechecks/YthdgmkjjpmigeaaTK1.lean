/- Contracts (the law's helps): bytes held against one another, copied. -/
import Derived.Test.YthdgmkjjpmigeaaTR19
namespace Go.Proofs.Ythdgmkjjpmigeaa
open Go.RowKit
set_option linter.unusedSimpArgs false
set_option linter.unusedVariables false

theorem onesB (l : List Int) : ∀ u ∈ l.map (Value.int .u8), u.oneCell' = true := by
  intro u hu
  obtain ⟨x, _, rfl⟩ := List.mem_map.1 hu
  rfl
set_option maxHeartbeats 3200000 in
theorem bytes_sr {w : World} {u v : Value} {l m : List Int} (h : Br w u l) (h' : Br w v m) (hl : l.length ≤ 1000000) (hm : m.length ≤ 1000000) :
    Calls Try.prog 17 #[u, v] w fun e w' => e = .returned (.bool (decide (l = m))) ∧ Below w.heap.size w w' := by
  obtain ⟨a, c, rfl, -⟩ := h.out
  obtain ⟨a', c', rfl, -⟩ := h'.out
  have HC : Hid _ := h
  have HD : Hid _ := h'
  obtain ⟨n, hn⟩ : ∃ n, n = l.length := ⟨_, rfl⟩
  obtain ⟨n', hn'⟩ : ∃ n', n' = m.length := ⟨_, rfl⟩
  obtain ⟨r, hr⟩ : ∃ r, r = decide (l = m) := ⟨_, rfl⟩
  rw [← hn] at hl HC ⊢
  rw [← hn'] at hm HD ⊢
  rw [← hr]
  have HR : Hid _ := hr
  have HN : Hid _ := hn
  have HN' : Hid _ := hn'
  clear h h' hr hn hn'
  by_cases hne : (n : Int) = n'
  · obtain rfl : n = n' := by omega
    have z1 : ((n : Int) == n) = true := by simp
    have y1 : ((n : Int) != n) = false := by simp
    clear hne
    go_enter Try.func17, Try.ntmps17
    go_wp2_with fail
    go_loopw [5] (fun i wr => ∃ k : Nat, k ≤ n ∧ i = .int .i64 (k : Int) ∧ (∀ j, j < k → l.getD j 0 = m.getD j 0) ∧ Below w.heap.size w wr) (fun i wr => n - (intOf i).toNat)
    case atStart => exact ⟨0, Nat.zero_le _, rfl, (fun j hj => by omega), Below.refl _ _⟩
    case round =>
      obtain ⟨k, hk, rfl, hz, hbl⟩ := hrel
      have HZ : Hid _ := hz
      clear hz
      by_cases hlt : k < n
      · obtain ⟨g, o, rfl, hck⟩ := HC.out.at' hbl (k := k) (by rw [← HN.out]; exact hlt)
        obtain ⟨g', o', rfl, hcm⟩ := HD.out.at' hbl (k := k) (by rw [← HN'.out]; exact hlt)
        obtain ⟨s, hs⟩ : ∃ s, s = l.getD k 0 := ⟨_, rfl⟩
        obtain ⟨s', hs'⟩ : ∃ s', s' = m.getD k 0 := ⟨_, rfl⟩
        rw [← hs] at hck
        rw [← hs'] at hcm
        by_cases e : s = s'
        · have HB : Hid (l.getD k 0 = m.getD k 0) := by unfold Hid; rw [← hs, ← hs', e]
          subst e
          have y2 : (s != s) = false := by simp
          clear hs hs'
          go_wp2_with fail
          go_region_held3 (fun x => x.cell? ⟨g, o + k, none⟩ = some (.int .u8 s) ∧ x.cell? ⟨g', o' + k, none⟩ = some (.int .u8 s))
            ((refine ⟨?_, ?_⟩ <;> simp [go_sem, hck, hcm]))
            (fail)
          go_wp2_with fail
          refine ⟨⟨k + 1, by omega, by go_num, fun j hj => ?_, hbl.drew⟩, by simp [intOf]; omega⟩
          by_cases e : j = k
          · subst e; exact HB.out
          · exact HZ.out j (by omega)
        · have HB : Hid (¬ l.getD k 0 = m.getD k 0) := by unfold Hid; rw [← hs, ← hs']; exact e
          have hne : (s == s') = false := by simp [e]
          have hne2 : (s != s') = true := by simp [e]
          clear hs hs'
          go_wp2_with fail
          go_region_held3 (fun x => x.cell? ⟨g, o + k, none⟩ = some (.int .u8 s) ∧ x.cell? ⟨g', o' + k, none⟩ = some (.int .u8 s'))
            ((refine ⟨?_, ?_⟩ <;> simp [go_sem, hck, hcm]))
            (fail)
          go_wp2_with fail
          go_ret
          exact ⟨by rw [HR.out, show decide (l = m) = false by simp; intro q; exact HB.out (by rw [q])]; rfl, hbl.drew⟩
      · obtain rfl : k = n := by omega
        have HT : Hid (r = true) := by
          unfold Hid
          rw [HR.out, decide_eq_true_eq]
          refine List.ext_getElem (by rw [← HN.out, ← HN'.out]) fun j h1 h2 => ?_
          have := HZ.out j (by rw [HN.out]; exact h1)
          rwa [List.getD_eq_getElem?_getD, List.getD_eq_getElem?_getD, List.getElem?_eq_getElem h1, List.getElem?_eq_getElem h2] at this
        go_wp2_with fail
        go_ret
        exact ⟨by rw [HT.out]; rfl, hbl⟩
  · have z1 : ((n : Int) == n') = false := by simp [hne]
    have y1 : ((n : Int) != n') = true := by simp [hne]
    go_enter Try.func17, Try.ntmps17
    go_wp2_with fail
    go_ret
    exact ⟨by rw [HR.out]; simp; intro e; exact hne (by rw [HN.out, HN'.out, e]), Below.refl _ _⟩

theorem appb_nil_eq (w : World) (ty : TypeId) (a : Option Addr) (c : Nat) : (Builtin.append_ #[23, 23] ty #[.slice none 0 0, .slice a 0 c]).run Try.prog w = .ok (.slice none 0 0) w := by
  cases a <;> kernel_rfl
/-- The cells that a slice's numbers lie in. -/
theorem Lb.news {w : World} {r o : Nat} {l : List Int} (h : Lb w r o l) : ∀ j u, (l.map (Value.int .u8))[j]? = some u → w.cell? ((⟨r, o, none⟩ : Addr).add j) = some u := by
  intro j u hj
  have hl : j < l.length := by have := (List.getElem?_eq_some_iff.1 hj).1; simpa using this
  have e : (⟨r, o, none⟩ : Addr).add j = ⟨r, o + j, none⟩ := by by_cases hj0 : j = 0 <;> simp [Addr.add, hj0]
  have hc := h j hl
  rw [e, hc]
  rw [List.getElem?_map, List.getElem?_eq_getElem hl] at hj
  rw [List.getD_eq_getElem?_getD, List.getElem?_eq_getElem hl]
  simpa using hj
set_option maxRecDepth 20000 in
set_option maxHeartbeats 3200000 in
theorem copyBytes_any {w : World} {u : Value} {l : List Int} (h : Br w u l) (hl : l.length ≤ 1000000) :
    Calls Try.prog 14 #[u] w fun ev w' => ∃ u', ev = .returned u' ∧ Bs w' w.heap.size u' l ∧ Below w.heap.size w w' := by
  obtain ⟨ti, ht0, hz0, hz1, hz2⟩ := info_any infoByte
  have HI : Hid _ := (⟨ht0, hz0, hz1, hz2⟩ : Try.prog.info? 5 = some ti ∧ ti.zero = _ ∧ ti.size = 1 ∧ ti.bytes = 1)
  clear ht0 hz0 hz1 hz2
  obtain ⟨a, c, rfl, -, h2⟩ := h.ex
  have HBY : Hid (byts l) := h.byte
  clear h
  rcases h2 with rfl | ⟨r, o, rfl, -, h⟩
  · have ha := appb_nil_eq w
    show Calls Try.prog 14 #[.slice a 0 c] w fun ev w' => ∃ u', ev = .returned u' ∧ Bs w' w.heap.size u' [] ∧ Below w.heap.size w w'
    go_enter Try.func14, Try.ntmps14
    go_wp2_with (at_builtin; refine wpList_app_eq _ rfl _ _ _ _ rfl _ _ rfl rfl (ha _ _ _) ?_)
    go_ret
    exact ⟨_, rfl, ⟨World.ownsRow_nil _ _ _ _, fun x hx => (by simp at hx)⟩, Below.refl _ _⟩
  · have HL : Hid _ := h
    obtain ⟨n, hn⟩ : ∃ n, n = l.length := ⟨_, rfl⟩
    have HN : Hid _ := hn
    rw [← hn] at hl ⊢
    clear h hn
    go_enter Try.func14, Try.ntmps14
    go_wp2_with (at_builtin; refine wpList_append_own_at _ rfl _ _ 23 rfl w.heap.size 5 ti (.int .u8 0) 1 1 bytesUnder HI.out.1 HI.out.2.1 HI.out.2.2.1 HI.out.2.2.2 rfl (by decide) (.slice none 0 0) 0 [] rfl (World.ownsRow_nil _ _ _ _) ⟨r, o, none⟩ n c (l.map (Value.int .u8)) rfl (by rw [List.length_map, HN.out]; omega) (Lb.news HL.out) (onesB l) (by unfold maxLen; omega) (by omega) (Nat.le_refl _) ?_; intro v1 w1 hown hgrow hnil hat)
    go_ret
    refine ⟨v1, rfl, ?_, ?_⟩
    · refine ⟨?_, HBY.out⟩
      rw [← HN.out]
      simpa using hown
    · exact ⟨hgrow.os, hgrow.tape, hgrow.output, hgrow.size, fun b hb => hgrow.block b hb (fun e => by cases e)⟩
end Go.Proofs.Ythdgmkjjpmigeaa
