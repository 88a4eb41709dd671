import Derived.Test.YtcahhahbcijkiaaGreatMg21
namespace Go.Proofs.YtcahhahbcijkiaaGreat.Ag
set_option maxHeartbeats 12800000
set_option maxRecDepth 100000
open Go.RowKit
set_option linter.unusedSimpArgs false
set_option linter.unusedVariables false
theorem ints_any {w : World} {g o c g' o' c' : Nat} {l m : List Int} (h : Li w g o l) (h' : Li w g' o' m) (hl : l.length ≤ 100000) (hm : m.length ≤ 100000) :
  Rt 19 #[.slice (some ⟨g, o, none⟩) l.length c, .slice (some ⟨g', o', none⟩) m.length c'] w (.bool (decide (l = m))) := by
 have HC : Hid _ := h
 have HD : Hid _ := h'
 obtain ⟨n, hn⟩ : ∃ n, n = l.length := ⟨_, rfl⟩
 obtain ⟨n', hn'⟩ : ∃ n', n' = m.length := ⟨_, rfl⟩
 obtain ⟨r, hr⟩ : ∃ r, r = decide (l = m) := ⟨_, rfl⟩
 rw [← hn] at hl ⊢
 rw [← hn'] at hm ⊢
 rw [← hr]
 have HR : Hid _ := hr
 have HN : Hid _ := hn
 have HN' : Hid _ := hn'
 clear h h' hr hn hn'
 by_cases hne : (n : Int) = n'
 ·obtain rfl : n = n' := by omega
  have z1 : ((n : Int) == n) = true := by simp
  have y1 : ((n : Int) != n) = false := by simp
  clear hne
  go_enter Tryz.func19, Tryz.ntmps19
  go_wp2_with fail
  go_loopw [5] (fun i wr => ∃ k : Nat, k ≤ n ∧ i = .int .i64 (k : Int) ∧ (∀ j, j < k → l.getD j 0 = m.getD j 0) ∧ Below w.heap.size w wr) (fun i wr => n - (intOf i).toNat)
  case atStart => exact ⟨0, Nat.zero_le _, rfl, (fun j hj => by omega), Below.refl _ _⟩
  case round =>
   obtain ⟨k, hk, rfl, hz, hbl⟩ := hrel
   have HZ : Hid _ := hz
   clear hz
   by_cases hlt : k < n
   ·obtain ⟨s, hs⟩ : ∃ s, s = l.getD k 0 := ⟨_, rfl⟩
    obtain ⟨s', hs'⟩ : ∃ s', s' = m.getD k 0 := ⟨_, rfl⟩
    have q1 := HC.out k (by rw [← HN.out]; exact hlt)
    have q2 := HD.out k (by rw [← HN'.out]; exact hlt)
    have hck : wr.cell? ⟨g, o + k, none⟩ = some (.int .i64 s) := by rw [hs, hbl.cell (p := ⟨g, o + k, none⟩) (World.block_lt_of_cell? _ _ q1)]; exact q1
    have hcm : wr.cell? ⟨g', o' + k, none⟩ = some (.int .i64 s') := by rw [hs', hbl.cell (p := ⟨g', o' + k, none⟩) (World.block_lt_of_cell? _ _ q2)]; exact q2
    clear q1 q2
    by_cases e : s = s'
    ·have HB : Hid (l.getD k 0 = m.getD k 0) := by unfold Hid; rw [← hs, ← hs', e]
     subst e
     have y2 : (s != s) = false := by simp
     clear hs hs'
     go_wp2_with fail
     go_region_held3 (fun x => x.cell? ⟨g, o + k, none⟩ = some (.int .i64 s) ∧ x.cell? ⟨g', o' + k, none⟩ = some (.int .i64 s))
      ((refine ⟨?_, ?_⟩ <;> simp [go_sem, hck, hcm]))
      (fail)
     go_wp2_with fail
     refine ⟨⟨k + 1, by omega, by go_num, fun j hj => ?_, hbl.drew⟩, by simp [intOf]; omega⟩
     by_cases e : j = k
     ·subst e; exact HB.out
     ·exact HZ.out j (by omega)
    ·have HB : Hid (¬ l.getD k 0 = m.getD k 0) := by unfold Hid; rw [← hs, ← hs']; exact e
     have hne : (s == s') = false := by simp [e]
     have hne2 : (s != s') = true := by simp [e]
     clear hs hs'
     go_wp2_with fail
     go_region_held3 (fun x => x.cell? ⟨g, o + k, none⟩ = some (.int .i64 s) ∧ x.cell? ⟨g', o' + k, none⟩ = some (.int .i64 s'))
      ((refine ⟨?_, ?_⟩ <;> simp [go_sem, hck, hcm]))
      (fail)
     go_wp2_with fail
     go_ret
     exact ⟨by rw [HR.out, show decide (l = m) = false by simp; intro q; exact HB.out (by rw [q])]; rfl, hbl.drew⟩
   ·obtain rfl : k = n := by omega
    have HT : Hid (r = true) := by
     unfold Hid
     rw [HR.out, decide_eq_true_eq]
     refine List.ext_getElem (by rw [← HN.out, ← HN'.out]) fun j h1 h2 => ?_
     have := HZ.out j (by rw [HN.out]; exact h1)
     rwa [List.getD_eq_getElem?_getD, List.getD_eq_getElem?_getD, List.getElem?_eq_getElem h1, List.getElem?_eq_getElem h2] at this
    go_wp2_with fail
    go_ret
    exact ⟨by rw [HT.out]; rfl, hbl⟩
 ·have z1 : ((n : Int) == n') = false := by simp [hne]
  have y1 : ((n : Int) != n') = true := by simp [hne]
  go_enter Tryz.func19, Tryz.ntmps19
  go_wp2_with fail
  go_ret
  exact ⟨by rw [HR.out]; simp; intro e; exact hne (by rw [HN.out, HN'.out, e]), Below.refl _ _⟩
theorem Is'.row {w : World} {base : Nat} {v : Value} {l : List Int} (h : Is' w base v l) (hl : l ≠ []) :
  ∃ r cap C f, v = .slice (some ⟨r, 0, none⟩) l.length cap ∧ base ≤ r ∧ l.length ≤ cap ∧ w.rowIs r 3 C f ∧ l.length ≤ C ∧ ∀ x, x < l.length → f x = .int .i64 (l.getD x 0) := by
 rcases h.2 with ⟨rfl, hn⟩ | ⟨r, cap, cur, rfl, hb, hg, hc, _, hs, ht⟩
 ·exact absurd (List.eq_nil_of_length_eq_zero hn) hl
 ·have hcs : l.length ≤ cur.size := by
   have := congrArg List.length ht
   simp at this
   omega
  refine ⟨r, cap, cur.size, fun x => cur[x]?.getD (.bool false), rfl, hb, hc, ⟨cur, hg, rfl, fun i hi => by simp [hi]⟩, hcs, fun x hx => ?_⟩
  have e : (l.map (Value.int .i64))[x]? = some (.int .i64 (l.getD x 0)) := by
   rw [List.getElem?_map, List.getElem?_eq_getElem hx, List.getD_eq_getElem?_getD, List.getElem?_eq_getElem hx]; rfl
  rw [← ht, List.getElem?_take_of_lt (by omega)] at e
  have e' : cur[x]? = some (.int .i64 (l.getD x 0)) := by simpa using e
  show cur[x]?.getD _ = _
  rw [e']; rfl
def rvF (L : List Int) (n k x : Nat) : Int := if x < k ∨ n ≤ x + k then L.getD (n - 1 - x) 0 else L.getD x 0
def rvV (L : List Int) (f : Nat → Value) (n k x : Nat) : Value := if x < n then .int .i64 (rvF L n k x) else f x
theorem rvV_in {L : List Int} {f : Nat → Value} {n k x : Nat} (hx : x < n) (h : ¬ (x < k ∨ n ≤ x + k)) : rvV L f n k x = .int .i64 (L.getD x 0) := by
 unfold rvV rvF; rw [if_pos hx, if_neg h]
theorem rvV_step {L : List Int} {f : Nat → Value} {n k J : Nat} (h : k + J + 1 = n) (hk : k < J) (x : Nat) : rvV L f n (k + 1) x = if x = J then .int .i64 (L.getD k 0) else if x = k then .int .i64 (L.getD J 0) else rvV L f n k x := by
 by_cases h1 : x = J
 ·rw [if_pos h1, h1]
  unfold rvV rvF
  rw [if_pos (by omega), if_pos (by omega), show n - 1 - J = k by omega]
 ·rw [if_neg h1]
  by_cases h2 : x = k
  ·rw [if_pos h2, h2]
   unfold rvV rvF
   rw [if_pos (by omega), if_pos (by omega), show n - 1 - k = J by omega]
  ·rw [if_neg h2]
   unfold rvV rvF
   by_cases h3 : x < n
   ·rw [if_pos h3, if_pos h3]
    by_cases h4 : x < k ∨ n ≤ x + k
    ·rw [if_pos h4, if_pos (by omega)]
    ·rw [if_neg h4, if_neg (by omega)]
   ·rw [if_neg h3, if_neg h3]
theorem rev_any {w : World} {r cap C n : Nat} {f : Nat → Value} {L : List Int} (hL : L.length = n) (h : w.rowIs r 3 C f) (hf : ∀ x, x < n → f x = .int .i64 (L.getD x 0)) (hC : n ≤ C) (hn : n ≤ 50000) (hn0 : 0 < n) :
  Calls Tryz.prog 46 #[.slice (some ⟨r, 0, none⟩) n cap] w fun e w' => e = .returned (.tuple #[]) ∧ Li w' r 0 L.reverse ∧ Below r w w' := by
 have HL : Hid _ := hL
 have HR : Hid (w.rowIs r 3 C (rvV L f n 0)) := h.congr fun x hx => by
  unfold rvV rvF
  by_cases h1 : x < n
  ·rw [if_pos h1, if_neg (by omega)]; exact hf x h1
  ·rw [if_neg h1]
 clear h hf hL
 have e0 : wrap64 ((n : Int) - 1) = (n : Int) - 1 := by unfold wrap64; omega
 go_enter Tryz.func46, Tryz.ntmps46
 go_wp2_with fail
 go_loopw [2, 3] (fun i j wr => ∃ k J : Nat, k + J + 1 = n ∧ i = .int .i64 (k : Int) ∧ j = .int .i64 (J : Int) ∧ k ≤ J + 1 ∧ wr.rowIs r 3 C (rvV L f n k) ∧ Below r w wr) (fun i j wr => n - (intOf i).toNat)
 case atStart => exact ⟨0, n - 1, by omega, rfl, by simp; omega, by omega, HR.out, Below.refl _ _⟩
 case round =>
  clear HR
  obtain ⟨k, J, hs, rfl, rfl, hkJ, hr, hbl⟩ := hrel
  by_cases hlt : k < J
  ·have c1 : wr.cell? ⟨r, k, none⟩ = some (.int .i64 (L.getD k 0)) := by rw [hr.cell (by omega), rvV_in (by omega) (by omega)]
   have c2 : wr.cell? ⟨r, J, none⟩ = some (.int .i64 (L.getD J 0)) := by rw [hr.cell (by omega), rvV_in (by omega) (by omega)]
   have f1 := hr.frozen k
   have f2 := hr.frozen J
   obtain ⟨x, hx⟩ : ∃ x, x = L.getD k 0 := ⟨_, rfl⟩
   obtain ⟨y, hy⟩ : ∃ y, y = L.getD J 0 := ⟨_, rfl⟩
   rw [← hx] at c1
   rw [← hy] at c2
   have HQ : Hid (∀ wz : World, wz.heap[r]? = ((wr.setCell ⟨r, k, none⟩ (.int .i64 y)).setCell ⟨r, J, none⟩ (.int .i64 x)).heap[r]? → wz.rowIs r 3 C (rvV L f n (k + 1))) := fun wz hz => ((hr.set k (.int .i64 y)).set J (.int .i64 x)).congr (fun j _ => by rw [rvV_step hs hlt, hx, hy]) |>.of_block hz
   clear hr hx hy
   have l1 : (k : Int) < (J : Int) := by omega
   have l2 : (k : Int) < (n : Int) := by omega
   have l3 : (J : Int) < (n : Int) := by omega
   have e1 : wrap64 ((k : Int) + 1) = (k : Int) + 1 := by unfold wrap64; omega
   have e2 : wrap64 ((J : Int) - 1) = (J : Int) - 1 := by unfold wrap64; omega
   have nkJ : k ≠ J := by omega
   go_wp2_with fail
   go_region
   all_goals
    go_wp2_with fail
    refine ⟨⟨k + 1, J - 1, by omega, by go_num, by simp; omega, by omega, HQ.out _ ?_, ?_⟩, by simp [intOf]; omega⟩
    ·first | rfl | (trace_state; done)
    ·go_grown
  ·have l1 : ¬ (k : Int) < (J : Int) := by omega
   have HF : Hid (Li wr r 0 L.reverse) := by
    intro j hj
    rw [List.length_reverse, HL.out] at hj
    rw [Nat.zero_add, hr.cell (by omega)]
    unfold rvV rvF
    have e : (L.reverse).getD j 0 = L.getD (n - 1 - j) 0 := by
     rw [List.getD_eq_getElem?_getD, List.getElem?_reverse (by rw [HL.out]; exact hj), HL.out, ← List.getD_eq_getElem?_getD]
    rw [if_pos hj, e]
    by_cases h1 : j < k ∨ n ≤ j + k
    ·rw [if_pos h1]
    ·rw [if_neg h1, show n - 1 - j = j by omega]
   clear hr
   go_wp2_with fail
   go_end0
   exact ⟨rfl, HF.out, hbl⟩
def Rl (w : World) (b : Nat) (v : Value) (l : List Int) : Prop := ∃ a c, v = .slice a l.length c ∧ l.length ≤ c ∧ l.length ≤ 50000 ∧ (l = [] ∨ ∃ r, a = some ⟨r, 0, none⟩ ∧ b ≤ r ∧ Li w r 0 l)
theorem ints_same {w : World} {b b' : Nat} {u v : Value} {l : List Int} (h : Rl w b u l) (h' : Rl w b' v l) :
  Rt 19 #[u, v] w (.bool true) := by
 obtain ⟨a, c, rfl, hc, h5, h⟩ := h
 obtain ⟨a', c', rfl, hc', -, h'⟩ := h'
 rcases h with rfl | ⟨r, rfl, -, h⟩
 ·show Rt 19 #[.slice a 0 c, .slice a' 0 c'] w (.bool true)
  go_enter Tryz.func19, Tryz.ntmps19
  go_wp2_with fail
  refine wp_loop_rounds 1 ?_
  rw [rounds_succ]
  go_wp2_with fail
  go_ret
  exact ⟨rfl, Below.refl _ _⟩
 ·rcases h' with rfl | ⟨r', rfl, -, h'⟩
  ·show Rt 19 #[.slice (some ⟨r, 0, none⟩) 0 c, .slice a' 0 c'] w (.bool true)
   go_enter Tryz.func19, Tryz.ntmps19
   go_wp2_with fail
   refine wp_loop_rounds 1 ?_
   rw [rounds_succ]
   go_wp2_with fail
   go_ret
   exact ⟨rfl, Below.refl _ _⟩
  ·have := ints_any (c := c) (c' := c') h h' (by omega) (by omega)
   rw [show decide (l = l) = true by simp] at this
   exact this
theorem Is'.rl {w : World} {base : Nat} {v : Value} {l : List Int} (h : Is' w base v l) (h5 : l.length ≤ 50000) : Rl w base v l := by
 by_cases hl : l = []
 ·subst hl
  rcases h.2 with ⟨rfl, hn⟩ | ⟨r, cap, cur, rfl, hb, hg, hc, _, hs, ht⟩
  ·exact ⟨none, 0, rfl, Nat.le_refl _, by simp, Or.inl rfl⟩
  ·exact ⟨_, cap, rfl, by simp, by simp, Or.inl rfl⟩
 ·obtain ⟨r, cap, rfl, hb, hc, hLi⟩ := h.li hl
  exact ⟨_, cap, rfl, hc, h5, Or.inr ⟨r, rfl, hb, hLi⟩⟩
theorem nil_eq (w : World) : (binOp .eql 34 (.slice none 0 0) (.slice none 0 0)).run Tryz.prog w = .ok (.bool true) w := by kernel_rfl
theorem nil_ne (w : World) (r n c : Nat) : (binOp .eql 34 (.slice (some ⟨r, 0, none⟩) n c) (.slice none 0 0)).run Tryz.prog w = .ok (.bool false) w := by kernel_rfl
theorem clone_nil (w : World) :
  Calls Tryz.prog 39 #[.slice none 0 0] w fun e w' => e = .returned (.slice none 0 0) ∧ w' = w := by
 have hq := nil_eq w
 go_enter Tryz.func39, Tryz.ntmps39
 go_wp2_with fail
 go_ret
 exact ⟨rfl, rfl⟩
theorem clone_news {w : World} {r : Nat} {l : List Int} {o : Obj} (h : Li w r 0 l) : ∀ j u, (l.map (Value.int .i64))[j]? = some u → (w.alloc o).cell? ((⟨r, 0, none⟩ : Addr).add j) = some u := by
 intro j u hj
 have hl : j < l.length := by have := (List.getElem?_eq_some_iff.1 hj).1; simpa using this
 have e : (⟨r, 0, none⟩ : Addr).add j = ⟨r, 0 + j, none⟩ := by simp [Addr.add]; try (intro hq; exact hq.symm)
 have hc := h j hl
 rw [e, World.cell?_of_block (w := w) (heap_alloc_old w o (World.block_lt_of_cell? _ _ hc)), hc]
 rw [List.getElem?_map, List.getElem?_eq_getElem hl] at hj
 rw [List.getD_eq_getElem?_getD, List.getElem?_eq_getElem hl]
 simpa using hj
theorem empty_row (w : World) : (w.alloc (.cells #[] 3)).ownsRow w.heap.size 3 1 (.slice (some ⟨w.heap.size, 0, none⟩) 0 0) 0 [] := ⟨rfl, Or.inr ⟨w.heap.size, 0, #[], rfl, Nat.le_refl _, heap_alloc_new w _, Nat.le_refl _, by decide, rfl, rfl⟩⟩
theorem clone_some {w : World} {r c : Nat} {l : List Int} (h : Li w r 0 l) (hl : l.length ≤ 50000) :
  Calls Tryz.prog 39 #[.slice (some ⟨r, 0, none⟩) l.length c] w fun e w' => ∃ u, e = .returned u ∧ Is' w' w.heap.size u l ∧ Below w.heap.size w w' := by
 obtain ⟨t0, ht0, hz0, hz1, hz2⟩ := info_any infoInt
 have HI0 : Hid (Tryz.prog.info? 3 = some t0 ∧ t0.zero = some (.int .i64 0) ∧ t0.size = 1 ∧ t0.bytes = 8) := ⟨ht0, hz0, hz1, hz2⟩
 have HL : Hid _ := h
 obtain ⟨n, en⟩ : ∃ n, n = l.length := ⟨_, rfl⟩
 have HN : Hid _ := en
 rw [← en] at hl ⊢
 have hq := nil_ne w r n c
 clear h ht0 hz0 hz1 hz2 en
 go_enter Tryz.func39, Tryz.ntmps39
 go_wp2_with (at_builtin; refine wpList_append_own_at _ rfl _ _ 34 rfl w.heap.size 3 t0 (.int .i64 0) 1 8 underInts HI0.out.1 HI0.out.2.1 HI0.out.2.2.1 HI0.out.2.2.2 rfl (by decide) _ _ _ rfl (empty_row w) ⟨r, 0, none⟩ n c (l.map (Value.int .i64)) rfl (by rw [List.length_map, HN.out, Nat.mul_one]) (clone_news HL.out) (ones l) (by unfold maxLen; omega) (by omega) (by simp) ?_; intro v1 w1 hown hgrow hnil hat)
 have HO : Hid _ := hown
 have hb : Below w.heap.size w w1 := low_grown (Below.refl _ _) (Nat.le_refl _) hgrow (fun q hq => by cases hq; exact Nat.le_refl _)
 clear hown hgrow hnil hat
 go_wp2_with fail
 go_ret
 refine ⟨_, rfl, ?_, hb⟩
 unfold Is'
 have := HO.out
 rw [Nat.zero_add, List.nil_append, HN.out] at this
 exact this
theorem clone_any {w : World} {base : Nat} {v : Value} {l : List Int} (h : Is' w base v l) (hl : l.length ≤ 50000) :
  Calls Tryz.prog 39 #[v] w fun e w' => ∃ u, e = .returned u ∧ Is' w' w.heap.size u l ∧ Below w.heap.size w w' := by
 rcases h.2 with ⟨rfl, hn⟩ | ⟨r, cap, cur, rfl, hb, hg, hc, _, hs, ht⟩
 ·refine (clone_nil w).mono ?_
  rintro e w' ⟨rfl, rfl⟩
  refine ⟨_, rfl, ?_, Below.refl _ _⟩
  rw [List.eq_nil_of_length_eq_zero hn]
  exact World.ownsRow_nil _ _ _ _
 ·refine clone_some (fun j hj => ?_) hl
  have e : (l.map (Value.int .i64))[j]? = some (.int .i64 (l.getD j 0)) := by
   rw [List.getElem?_map, List.getElem?_eq_getElem hj, List.getD_eq_getElem?_getD, List.getElem?_eq_getElem hj]; rfl
  rw [← ht, List.getElem?_take_of_lt (by omega)] at e
  rw [Nat.zero_add]
  exact cell_of hg _ (by simpa using e)
theorem inputs_any {w : World} {F : Nat → Prop} {g mo : Nat} {ks : List Kd} (h : Gr w F g mo ks) :
  Calls Tryz.prog 23 #[.pointer (some ⟨g, 0, none⟩)] w fun e w' => ∃ u, e = .returned u ∧ Is' w' w.heap.size u (insL ks) ∧ Below w.heap.size w w' := by
 have hl := h.len
 have hl2 := insL_len ks
 obtain ⟨m, v, u, hx, -⟩ := h
 have c3 := hx.c3
 have HC : Hid _ := clone_any hx.ins (by omega)
 obtain ⟨a, c, rfl, -⟩ := hx.ins.any
 clear hx
 go_enter Tryz.func23, Tryz.ntmps23
 go_wp2_with fail
 refine Calls.mono HC.out ?_
 rintro e w1 ⟨u, rfl, hI, hb⟩
 have HI : Hid _ := hI
 obtain ⟨a1, c1, rfl, -⟩ := Is'.any hI
 clear hI
 go_wp2_with fail
 go_ret
 exact ⟨_, rfl, HI.out, hb⟩
end Go.Proofs.YtcahhahbcijkiaaGreat.Ag
