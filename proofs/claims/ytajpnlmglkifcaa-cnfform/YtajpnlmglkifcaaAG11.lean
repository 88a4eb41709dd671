/- Contracts (aig): lists of numbers: alike, turned round, copied; the inputs. -/
import Derived.Test.YtajpnlmglkifcaaAG9
namespace Go.Proofs.Ytajpnlmglkifcaa
open Go.RowKit
set_option linter.unusedSimpArgs false
set_option linter.unusedVariables false

set_option maxHeartbeats 3200000 in
theorem ints_any {w : World} {g o c g' o' c' : Nat} {l m : List Int} (h : Li w g o l) (h' : Li w g' o' m) (hl : l.length ≤ 100000) (hm : m.length ≤ 100000) :
    Calls Try.prog 19 #[.slice (some ⟨g, o, none⟩) l.length c, .slice (some ⟨g', o', none⟩) m.length c'] w fun e w' => e = .returned (.bool (decide (l = m))) ∧ Below w.heap.size w w' := by
  have HC : Hid _ := h
  have HD : Hid _ := h'
  obtain ⟨n, hn⟩ : ∃ n, n = l.length := ⟨_, rfl⟩
  obtain ⟨n', hn'⟩ : ∃ n', n' = m.length := ⟨_, rfl⟩
  obtain ⟨r, hr⟩ : ∃ r, r = decide (l = m) := ⟨_, rfl⟩
  rw [← hn] at hl ⊢
  rw [← hn'] at hm ⊢
  rw [← hr]
  have HR : Hid _ := hr
  have HN : Hid _ := hn
  have HN' : Hid _ := hn'
  clear h h' hr hn hn'
  by_cases hne : (n : Int) = n'
  · obtain rfl : n = n' := by omega
    have z1 : ((n : Int) == n) = true := by simp
    have y1 : ((n : Int) != n) = false := by simp
    clear hne
    go_enter Try.func19, Try.ntmps19
    go_wp2_with fail
    go_loopw [5] (fun i wr => ∃ k : Nat, k ≤ n ∧ i = .int .i64 (k : Int) ∧ (∀ j, j < k → l.getD j 0 = m.getD j 0) ∧ Below w.heap.size w wr) (fun i wr => n - (intOf i).toNat)
    case atStart => exact ⟨0, Nat.zero_le _, rfl, (fun j hj => by omega), Below.refl _ _⟩
    case round =>
      obtain ⟨k, hk, rfl, hz, hbl⟩ := hrel
      have HZ : Hid _ := hz
      clear hz
      by_cases hlt : k < n
      · obtain ⟨s, hs⟩ : ∃ s, s = l.getD k 0 := ⟨_, rfl⟩
        obtain ⟨s', hs'⟩ : ∃ s', s' = m.getD k 0 := ⟨_, rfl⟩
        have q1 := HC.out k (by rw [← HN.out]; exact hlt)
        have q2 := HD.out k (by rw [← HN'.out]; exact hlt)
        have hck : wr.cell? ⟨g, o + k, none⟩ = some (.int .i64 s) := by rw [hs, hbl.cell (p := ⟨g, o + k, none⟩) (World.block_lt_of_cell? _ _ q1)]; exact q1
        have hcm : wr.cell? ⟨g', o' + k, none⟩ = some (.int .i64 s') := by rw [hs', hbl.cell (p := ⟨g', o' + k, none⟩) (World.block_lt_of_cell? _ _ q2)]; exact q2
        clear q1 q2
        by_cases e : s = s'
        · have HB : Hid (l.getD k 0 = m.getD k 0) := by unfold Hid; rw [← hs, ← hs', e]
          subst e
          have y2 : (s != s) = false := by simp
          clear hs hs'
          go_wp2_with fail
          go_region_held3 (fun x => x.cell? ⟨g, o + k, none⟩ = some (.int .i64 s) ∧ x.cell? ⟨g', o' + k, none⟩ = some (.int .i64 s))
            ((refine ⟨?_, ?_⟩ <;> simp [go_sem, hck, hcm]))
            (fail)
          go_wp2_with fail
          refine ⟨⟨k + 1, by omega, by go_num, fun j hj => ?_, hbl.drew⟩, by simp [intOf]; omega⟩
          by_cases e : j = k
          · subst e; exact HB.out
          · exact HZ.out j (by omega)
        · have HB : Hid (¬ l.getD k 0 = m.getD k 0) := by unfold Hid; rw [← hs, ← hs']; exact e
          have hne : (s == s') = false := by simp [e]
          have hne2 : (s != s') = true := by simp [e]
          clear hs hs'
          go_wp2_with fail
          go_region_held3 (fun x => x.cell? ⟨g, o + k, none⟩ = some (.int .i64 s) ∧ x.cell? ⟨g', o' + k, none⟩ = some (.int .i64 s'))
            ((refine ⟨?_, ?_⟩ <;> simp [go_sem, hck, hcm]))
            (fail)
          go_wp2_with fail
          go_ret
          exact ⟨by rw [HR.out, show decide (l = m) = false by simp; intro q; exact HB.out (by rw [q])]; rfl, hbl.drew⟩
      · obtain rfl : k = n := by omega
        have HT : Hid (r = true) := by
          unfold Hid
          rw [HR.out, decide_eq_true_eq]
          refine List.ext_getElem (by rw [← HN.out, ← HN'.out]) fun j h1 h2 => ?_
          have := HZ.out j (by rw [HN.out]; exact h1)
          rwa [List.getD_eq_getElem?_getD, List.getD_eq_getElem?_getD, List.getElem?_eq_getElem h1, List.getElem?_eq_getElem h2] at this
        go_wp2_with fail
        go_ret
        exact ⟨by rw [HT.out]; rfl, hbl⟩
  · have z1 : ((n : Int) == n') = false := by simp [hne]
    have y1 : ((n : Int) != n') = true := by simp [hne]
    go_enter Try.func19, Try.ntmps19
    go_wp2_with fail
    go_ret
    exact ⟨by rw [HR.out]; simp; intro e; exact hne (by rw [HN.out, HN'.out, e]), Below.refl _ _⟩

theorem Is'.row {w : World} {base : Nat} {v : Value} {l : List Int} (h : Is' w base v l) (hl : l ≠ []) :
    ∃ r cap C f, v = .slice (some ⟨r, 0, none⟩) l.length cap ∧ base ≤ r ∧ l.length ≤ cap ∧ w.rowIs r 3 C f ∧ l.length ≤ C ∧ ∀ x, x < l.length → f x = .int .i64 (l.getD x 0) := by
  rcases h.2 with ⟨rfl, hn⟩ | ⟨r, cap, cur, rfl, hb, hg, hc, _, hs, ht⟩
  · exact absurd (List.eq_nil_of_length_eq_zero hn) hl
  · have hcs : l.length ≤ cur.size := by
      have := congrArg List.length ht
      simp at this
      omega
    refine ⟨r, cap, cur.size, fun x => cur[x]?.getD (.bool false), rfl, hb, hc, ⟨cur, hg, rfl, fun i hi => by simp [hi]⟩, hcs, fun x hx => ?_⟩
    have e : (l.map (Value.int .i64))[x]? = some (.int .i64 (l.getD x 0)) := by
      rw [List.getElem?_map, List.getElem?_eq_getElem hx, List.getD_eq_getElem?_getD, List.getElem?_eq_getElem hx]; rfl
    rw [← ht, List.getElem?_take_of_lt (by omega)] at e
    have e' : cur[x]? = some (.int .i64 (l.getD x 0)) := by simpa using e
    show cur[x]?.getD _ = _
    rw [e']; rfl

/-- A list that is turned round up to its k-th place. -/
def rvF (L : List Int) (n k x : Nat) : Int := if x < k ∨ n ≤ x + k then L.getD (n - 1 - x) 0 else L.getD x 0
def rvV (L : List Int) (f : Nat → Value) (n k x : Nat) : Value := if x < n then .int .i64 (rvF L n k x) else f x
theorem rvV_in {L : List Int} {f : Nat → Value} {n k x : Nat} (hx : x < n) (h : ¬ (x < k ∨ n ≤ x + k)) : rvV L f n k x = .int .i64 (L.getD x 0) := by
  unfold rvV rvF; rw [if_pos hx, if_neg h]
theorem rvV_step {L : List Int} {f : Nat → Value} {n k J : Nat} (h : k + J + 1 = n) (hk : k < J) (x : Nat) : rvV L f n (k + 1) x = if x = J then .int .i64 (L.getD k 0) else if x = k then .int .i64 (L.getD J 0) else rvV L f n k x := by
  by_cases h1 : x = J
  · rw [if_pos h1, h1]
    unfold rvV rvF
    rw [if_pos (by omega), if_pos (by omega), show n - 1 - J = k by omega]
  · rw [if_neg h1]
    by_cases h2 : x = k
    · rw [if_pos h2, h2]
      unfold rvV rvF
      rw [if_pos (by omega), if_pos (by omega), show n - 1 - k = J by omega]
    · rw [if_neg h2]
      unfold rvV rvF
      by_cases h3 : x < n
      · rw [if_pos h3, if_pos h3]
        by_cases h4 : x < k ∨ n ≤ x + k
        · rw [if_pos h4, if_pos (by omega)]
        · rw [if_neg h4, if_neg (by omega)]
      · rw [if_neg h3, if_neg h3]

/-- v is a slice of these numbers. -/
def Rl (w : World) (b : Nat) (v : Value) (l : List Int) : Prop := ∃ a c, v = .slice a l.length c ∧ l.length ≤ c ∧ l.length ≤ 50000 ∧ (l = [] ∨ ∃ r, a = some ⟨r, 0, none⟩ ∧ b ≤ r ∧ Li w r 0 l)
theorem Rl.below {w wx : World} {b : Nat} {v : Value} {l : List Int} (h : Rl w b v l) (hb : Below w.heap.size w wx) : Rl wx b v l := by
  obtain ⟨a, c, hv, hc, h5, h⟩ := h
  refine ⟨a, c, hv, hc, h5, ?_⟩
  rcases h with h | ⟨r, ha, hbr, h⟩
  · exact Or.inl h
  · exact Or.inr ⟨r, ha, hbr, fun j hj => by rw [hb.cell (p := ⟨r, 0 + j, none⟩) (World.block_lt_of_cell? _ _ (h j hj))]; exact h j hj⟩
theorem ints_same {w : World} {b b' : Nat} {u v : Value} {l : List Int} (h : Rl w b u l) (h' : Rl w b' v l) :
    Calls Try.prog 19 #[u, v] w fun e w' => e = .returned (.bool true) ∧ Below w.heap.size w w' := by
  obtain ⟨a, c, rfl, hc, h5, h⟩ := h
  obtain ⟨a', c', rfl, hc', -, h'⟩ := h'
  rcases h with rfl | ⟨r, rfl, -, h⟩
  · show Calls Try.prog 19 #[.slice a 0 c, .slice a' 0 c'] w fun e w' => e = .returned (.bool true) ∧ Below w.heap.size w w'
    go_enter Try.func19, Try.ntmps19
    go_wp2_with fail
    refine wp_loop_rounds 1 ?_
    rw [rounds_succ]
    go_wp2_with fail
    go_ret
    exact ⟨rfl, Below.refl _ _⟩
  · rcases h' with rfl | ⟨r', rfl, -, h'⟩
    · show Calls Try.prog 19 #[.slice (some ⟨r, 0, none⟩) 0 c, .slice a' 0 c'] w fun e w' => e = .returned (.bool true) ∧ Below w.heap.size w w'
      go_enter Try.func19, Try.ntmps19
      go_wp2_with fail
      refine wp_loop_rounds 1 ?_
      rw [rounds_succ]
      go_wp2_with fail
      go_ret
      exact ⟨rfl, Below.refl _ _⟩
    · have := ints_any (c := c) (c' := c') h h' (by omega) (by omega)
      rw [show decide (l = l) = true by simp] at this
      exact this

theorem Is'.rl {w : World} {base : Nat} {v : Value} {l : List Int} (h : Is' w base v l) (h5 : l.length ≤ 50000) : Rl w base v l := by
  by_cases hl : l = []
  · subst hl
    rcases h.2 with ⟨rfl, hn⟩ | ⟨r, cap, cur, rfl, hb, hg, hc, _, hs, ht⟩
    · exact ⟨none, 0, rfl, Nat.le_refl _, by simp, Or.inl rfl⟩
    · exact ⟨_, cap, rfl, by simp, by simp, Or.inl rfl⟩
  · obtain ⟨r, cap, rfl, hb, hc, hLi⟩ := h.li hl
    exact ⟨_, cap, rfl, hc, h5, Or.inr ⟨r, rfl, hb, hLi⟩⟩

theorem nil_eq (w : World) : (binOp .eql 31 (.slice none 0 0) (.slice none 0 0)).run Try.prog w = .ok (.bool true) w := by kernel_rfl
theorem nil_ne (w : World) (r n c : Nat) : (binOp .eql 31 (.slice (some ⟨r, 0, none⟩) n c) (.slice none 0 0)).run Try.prog w = .ok (.bool false) w := by kernel_rfl
set_option maxHeartbeats 1600000 in
theorem clone_nil (w : World) :
    Calls Try.prog 32 #[.slice none 0 0] w fun e w' => e = .returned (.slice none 0 0) ∧ w' = w := by
  have hq := nil_eq w
  go_enter Try.func32, Try.ntmps32
  go_wp2_with fail
  go_ret
  exact ⟨rfl, rfl⟩
theorem clone_news {w : World} {r : Nat} {l : List Int} {o : Obj} (h : Li w r 0 l) : ∀ j u, (l.map (Value.int .i64))[j]? = some u → (w.alloc o).cell? ((⟨r, 0, none⟩ : Addr).add j) = some u := by
  intro j u hj
  have hl : j < l.length := by have := (List.getElem?_eq_some_iff.1 hj).1; simpa using this
  have e : (⟨r, 0, none⟩ : Addr).add j = ⟨r, 0 + j, none⟩ := by simp [Addr.add]; try (intro hq; exact hq.symm)
  have hc := h j hl
  rw [e, World.cell?_of_block (w := w) (heap_alloc_old w o (World.block_lt_of_cell? _ _ hc)), hc]
  rw [List.getElem?_map, List.getElem?_eq_getElem hl] at hj
  rw [List.getD_eq_getElem?_getD, List.getElem?_eq_getElem hl]
  simpa using hj
theorem empty_row (w : World) : (w.alloc (.cells #[] 3)).ownsRow w.heap.size 3 1 (.slice (some ⟨w.heap.size, 0, none⟩) 0 0) 0 [] := ⟨rfl, Or.inr ⟨w.heap.size, 0, #[], rfl, Nat.le_refl _, heap_alloc_new w _, Nat.le_refl _, by decide, rfl, rfl⟩⟩
set_option maxHeartbeats 1600000 in
theorem clone_some {w : World} {r c : Nat} {l : List Int} (h : Li w r 0 l) (hl : l.length ≤ 50000) :
    Calls Try.prog 32 #[.slice (some ⟨r, 0, none⟩) l.length c] w fun e w' => ∃ u, e = .returned u ∧ Is' w' w.heap.size u l ∧ Below w.heap.size w w' := by
  obtain ⟨t0, ht0, hz0, hz1, hz2⟩ := info_any infoInt
  have HI0 : Hid (Try.prog.info? 3 = some t0 ∧ t0.zero = some (.int .i64 0) ∧ t0.size = 1 ∧ t0.bytes = 8) := ⟨ht0, hz0, hz1, hz2⟩
  have HL : Hid _ := h
  obtain ⟨n, en⟩ : ∃ n, n = l.length := ⟨_, rfl⟩
  have HN : Hid _ := en
  rw [← en] at hl ⊢
  have hq := nil_ne w r n c
  clear h ht0 hz0 hz1 hz2 en
  go_enter Try.func32, Try.ntmps32
  go_wp2_with (at_builtin; refine wpList_append_own_at _ rfl _ _ 31 rfl w.heap.size 3 t0 (.int .i64 0) 1 8 underInts HI0.out.1 HI0.out.2.1 HI0.out.2.2.1 HI0.out.2.2.2 rfl (by decide) _ _ _ rfl (empty_row w) ⟨r, 0, none⟩ n c (l.map (Value.int .i64)) rfl (by rw [List.length_map, HN.out, Nat.mul_one]) (clone_news HL.out) (ones l) (by unfold maxLen; omega) (by omega) (by simp) ?_; intro v1 w1 hown hgrow hnil hat)
  have HO : Hid _ := hown
  have hb : Below w.heap.size w w1 := low_grown (Below.refl _ _) (Nat.le_refl _) hgrow (fun q hq => by cases hq; exact Nat.le_refl _)
  clear hown hgrow hnil hat
  go_wp2_with fail
  go_ret
  refine ⟨_, rfl, ?_, hb⟩
  unfold Is'
  have := HO.out
  rw [Nat.zero_add, List.nil_append, HN.out] at this
  exact this
theorem clone_any {w : World} {base : Nat} {v : Value} {l : List Int} (h : Is' w base v l) (hl : l.length ≤ 50000) :
    Calls Try.prog 32 #[v] w fun e w' => ∃ u, e = .returned u ∧ Is' w' w.heap.size u l ∧ Below w.heap.size w w' := by
  rcases h.2 with ⟨rfl, hn⟩ | ⟨r, cap, cur, rfl, hb, hg, hc, _, hs, ht⟩
  · refine (clone_nil w).mono ?_
    rintro e w' ⟨rfl, rfl⟩
    refine ⟨_, rfl, ?_, Below.refl _ _⟩
    rw [List.eq_nil_of_length_eq_zero hn]
    exact World.ownsRow_nil _ _ _ _
  · refine clone_some (fun j hj => ?_) hl
    have e : (l.map (Value.int .i64))[j]? = some (.int .i64 (l.getD j 0)) := by
      rw [List.getElem?_map, List.getElem?_eq_getElem hj, List.getD_eq_getElem?_getD, List.getElem?_eq_getElem hj]; rfl
    rw [← ht, List.getElem?_take_of_lt (by omega)] at e
    rw [Nat.zero_add]
    exact cell_of hg _ (by simpa using e)
set_option maxHeartbeats 1600000 in
theorem inputs_any {w : World} {F : Nat → Prop} {g mo : Nat} {ks : List Kd} (h : Gr w F g mo ks) :
    Calls Try.prog 10 #[.pointer (some ⟨g, 0, none⟩)] w fun e w' => ∃ u, e = .returned u ∧ Is' w' w.heap.size u (insL ks) ∧ Below w.heap.size w w' := by
  have hl := h.len
  have hl2 := insL_len ks
  obtain ⟨m, v, u, hx, -⟩ := h
  have c3 := hx.c3
  have HC : Hid _ := clone_any hx.ins (by omega)
  obtain ⟨a, c, rfl, -⟩ := hx.ins.any
  clear hx
  go_enter Try.func10, Try.ntmps10
  go_wp2_with fail
  refine Calls.mono HC.out ?_
  rintro e w1 ⟨u, rfl, hI, hb⟩
  have HI : Hid _ := hI
  obtain ⟨a1, c1, rfl, -⟩ := Is'.any hI
  clear hI
  go_wp2_with fail
  go_ret
  exact ⟨_, rfl, HI.out, hb⟩
end Go.Proofs.Ytajpnlmglkifcaa
