import Derived.Test.YtcahhahbcijkiaaGreatMg6
import Derived.Test.YtcahhahbcijkiaaGreatBLZE
import Derived.Test.YtcahhahbcijkiaaGreatMg9
import Derived.Test.YtcahhahbcijkiaaGreatMg13
import Derived.Deep.OwnRows
import Derived.BigRegion
namespace Go.Proofs.YtcahhahbcijkiaaGreat
set_option maxHeartbeats 12800000
set_option maxRecDepth 100000
open Go.RowKit
set_option linter.unusedSimpArgs false
set_option linter.unusedVariables false
def wl (s : Int) : Nat := (max s 1).toNat
theorem srtF_yes {op p q s : Int} {l : List Int} (h : srtF op p q l = (s, 0)) : 1 ≤ ari op ∧ (l.length : Int) = ari op ∧ l.all srt = true ∧ opf op l = true ∧ nft op p q (l.getD 0 0) = true ∧ ans op p q l = s ∧ s ≤ 128 := by
 unfold srtF at h
 split at h
 ·cases h
 ·rename_i h1
  split at h
  ·rename_i h2
   split at h
   ·rename_i h3
    injection h with h4 h5
    obtain ⟨h2a, h2b⟩ := h2
    unfold fitB at h2b
    simp only [Bool.and_eq_true] at h2b
    exact ⟨by omega, h2a, h2b.1.1, h2b.1.2, h2b.2, h4, by rw [← h4]; exact h3⟩
   ·cases h
  ·cases h
theorem cir_one {op : Nat} {p q s x : Int} {K A B C : List Int} (h : srtF (op : Int) p q [x] = (s, 0)) (hk : ari (op : Int) = 1) (hp : p ≤ 24) (hA : A.length = wl x) : ∃ P Q : Nat, p = P ∧ q = Q ∧ Ag.cirP K A B C P Q (wl s) op ∧ 0 ≤ s := by
 obtain ⟨h1, h2, h3, h4, h5, h6, h7⟩ := srtF_yes h
 have hx : 0 ≤ x ∧ x ≤ 128 := by simpa [srt] using h3
 have hop : op = 3 ∨ op = 10 ∨ op = 11 ∨ op = 39 ∨ op = 40 ∨ op = 41 ∨ op = 42 ∨ op = 43 ∨ op = 44 := by
  unfold ari at hk
  split at hk
  ·omega
  ·split at hk
   ·omega
   ·split at hk
    ·omega
    ·split at hk <;> omega
 unfold wl at hA
 rcases hop with rfl | rfl | rfl | rfl | rfl | rfl | rfl | rfl | rfl
 all_goals
  simp [opf, alk, nft, ans] at h4 h5 h6
  refine ⟨p.toNat, q.toNat, by omega, by omega, ?_, by first | omega | (rw [← h6]; exact Int.mul_nonneg hx.1 (by omega))⟩
  simp only [Ag.cirP, wl]
 all_goals first
  | omega
  | skip
 all_goals
  obtain ⟨X, rfl⟩ : ∃ X : Nat, x = (X : Int) := ⟨x.toNat, by omega⟩
  obtain ⟨P, rfl⟩ : ∃ P : Nat, p = (P : Int) := ⟨p.toNat, by omega⟩
  rw [show min (P : Int) 129 = (P : Int) by omega, ← Int.natCast_mul] at h6
  have hm : 1 ≤ X * P := Nat.mul_le_mul (show 1 ≤ X by omega) (show 1 ≤ P by omega)
  rw [Int.toNat_natCast, hA, show (max (X : Int) 1).toNat = X by omega, Nat.mul_comm P X]
  exact ⟨by omega, by omega⟩
theorem cir_two {op : Nat} {p q s x y : Int} {K A B C : List Int} (h : srtF (op : Int) p q [x, y] = (s, 0)) (hk : ari (op : Int) = 2) (hA : A.length = wl x) (hB : B.length = wl y) : ∃ P Q : Nat, p = P ∧ q = Q ∧ Ag.cirP K A B C P Q (wl s) op ∧ 0 ≤ s := by
 obtain ⟨h1, h2, h3, h4, h5, h6, h7⟩ := srtF_yes h
 have hx : (0 ≤ x ∧ x ≤ 128) ∧ 0 ≤ y ∧ y ≤ 128 := by simpa [srt] using h3
 have hop : (4 ≤ op ∧ op ≤ 8) ∨ (12 ≤ op ∧ op ≤ 38) := by
  unfold ari at hk
  split at hk
  ·omega
  ·split at hk
   ·omega
   ·split at hk
    ·omega
    ·split at hk <;> omega
 unfold wl at hA hB
 have hop2 : op = 4 ∨ op = 5 ∨ op = 6 ∨ op = 7 ∨ op = 8 ∨ op = 12 ∨ op = 13 ∨ op = 14 ∨ op = 15 ∨ op = 16 ∨ op = 17 ∨ op = 18 ∨ op = 19 ∨ op = 20 ∨ op = 21 ∨ op = 22 ∨ op = 23 ∨ op = 24 ∨ op = 25 ∨ op = 26 ∨ op = 27 ∨ op = 28 ∨ op = 29 ∨ op = 30 ∨ op = 31 ∨ op = 32 ∨ op = 33 ∨ op = 34 ∨ op = 35 ∨ op = 36 ∨ op = 37 ∨ op = 38 := by omega
 rcases hop2 with rfl | rfl | rfl | rfl | rfl | rfl | rfl | rfl | rfl | rfl | rfl | rfl | rfl | rfl | rfl | rfl | rfl | rfl | rfl | rfl | rfl | rfl | rfl | rfl | rfl | rfl | rfl | rfl | rfl | rfl | rfl | rfl
 all_goals
  simp [opf, alk, nft, ans] at h4 h5 h6
  refine ⟨p.toNat, q.toNat, by omega, by omega, ?_, by omega⟩
  simp only [Ag.cirP, wl]
  omega
theorem cir_three {op : Nat} {p q s x y z : Int} {K A B C : List Int} (h : srtF (op : Int) p q [x, y, z] = (s, 0)) (hk : ari (op : Int) = 3) (hA : A.length = wl x) (hB : B.length = wl y) (hC : C.length = wl z) : ∃ P Q : Nat, p = P ∧ q = Q ∧ Ag.cirP K A B C P Q (wl s) op ∧ 0 ≤ s := by
 obtain ⟨h1, h2, h3, h4, h5, h6, h7⟩ := srtF_yes h
 have hx : (0 ≤ x ∧ x ≤ 128) ∧ (0 ≤ y ∧ y ≤ 128) ∧ 0 ≤ z ∧ z ≤ 128 := by simpa [srt] using h3
 have hop : op = 9 := by
  unfold ari at hk
  split at hk
  ·omega
  ·split at hk
   ·omega
   ·split at hk
    ·omega
    ·split at hk <;> omega
 unfold wl at hA hB hC
 subst hop
 simp [opf, alk, nft, ans] at h4 h5 h6
 refine ⟨p.toNat, q.toNat, by omega, by omega, ?_, by omega⟩
 simp only [Ag.cirP, wl]
 omega
theorem Is'.row {w : World} {base : Nat} {v : Value} {l : List Int} (h : Is' w base v l) (hl : l ≠ []) :
  ∃ r cap C f, v = .slice (some ⟨r, 0, none⟩) l.length cap ∧ base ≤ r ∧ l.length ≤ cap ∧ w.rowIs r 3 C f ∧ l.length ≤ C ∧ ∀ x, x < l.length → f x = .int .i64 (l.getD x 0) := by
 rcases h.2 with ⟨rfl, hn⟩ | ⟨r, cap, cur, rfl, hb, hg, hc, _, hs, ht⟩
 ·exact absurd (List.eq_nil_of_length_eq_zero hn) hl
 ·have hcs : l.length ≤ cur.size := by
   have := congrArg List.length ht
   simp at this
   omega
  refine ⟨r, cap, cur.size, fun x => cur[x]?.getD (.bool false), rfl, hb, hc, ⟨cur, hg, rfl, fun i hi => by simp [hi]⟩, hcs, fun x hx => ?_⟩
  have e : (l.map (Value.int .i64))[x]? = some (.int .i64 (l.getD x 0)) := by
   rw [List.getElem?_map, List.getElem?_eq_getElem hx, List.getD_eq_getElem?_getD, List.getElem?_eq_getElem hx]; rfl
  rw [← ht, List.getElem?_take_of_lt (by omega)] at e
  have e' : cur[x]? = some (.int .i64 (l.getD x 0)) := by simpa using e
  show cur[x]?.getD _ = _
  rw [e']; rfl
def rvF (L : List Int) (n k x : Nat) : Int := if x < k ∨ n ≤ x + k then L.getD (n - 1 - x) 0 else L.getD x 0
def rvV (L : List Int) (f : Nat → Value) (n k x : Nat) : Value := if x < n then .int .i64 (rvF L n k x) else f x
theorem rvV_in {L : List Int} {f : Nat → Value} {n k x : Nat} (hx : x < n) (h : ¬ (x < k ∨ n ≤ x + k)) : rvV L f n k x = .int .i64 (L.getD x 0) := by
 unfold rvV rvF; rw [if_pos hx, if_neg h]
theorem rvV_step {L : List Int} {f : Nat → Value} {n k J : Nat} (h : k + J + 1 = n) (hk : k < J) (x : Nat) : rvV L f n (k + 1) x = if x = J then .int .i64 (L.getD k 0) else if x = k then .int .i64 (L.getD J 0) else rvV L f n k x := by
 by_cases h1 : x = J
 ·rw [if_pos h1, h1]
  unfold rvV rvF
  rw [if_pos (by omega), if_pos (by omega), show n - 1 - J = k by omega]
 ·rw [if_neg h1]
  by_cases h2 : x = k
  ·rw [if_pos h2, h2]
   unfold rvV rvF
   rw [if_pos (by omega), if_pos (by omega), show n - 1 - k = J by omega]
  ·rw [if_neg h2]
   unfold rvV rvF
   by_cases h3 : x < n
   ·rw [if_pos h3, if_pos h3]
    by_cases h4 : x < k ∨ n ≤ x + k
    ·rw [if_pos h4, if_pos (by omega)]
    ·rw [if_neg h4, if_neg (by omega)]
   ·rw [if_neg h3, if_neg h3]
theorem rev_any {w : World} {r cap C n : Nat} {f : Nat → Value} {L : List Int} (hL : L.length = n) (h : w.rowIs r 3 C f) (hf : ∀ x, x < n → f x = .int .i64 (L.getD x 0)) (hC : n ≤ C) (hn : n ≤ 5000) (hn0 : 0 < n) :
  Calls Tryz.prog 46 #[.slice (some ⟨r, 0, none⟩) n cap] w fun e w' => e = .returned (.tuple #[]) ∧ Li w' r 0 L.reverse ∧ Below r w w' := by
 have HL : Hid _ := hL
 have HR : Hid (w.rowIs r 3 C (rvV L f n 0)) := h.congr fun x hx => by
  unfold rvV rvF
  by_cases h1 : x < n
  ·rw [if_pos h1, if_neg (by omega)]; exact hf x h1
  ·rw [if_neg h1]
 clear h hf hL
 have e0 : wrap64 ((n : Int) - 1) = (n : Int) - 1 := by unfold wrap64; omega
 go_enter Tryz.func46, Tryz.ntmps46
 go_wp2_with fail
 go_loopw [2, 3] (fun i j wr => ∃ k J : Nat, k + J + 1 = n ∧ i = .int .i64 (k : Int) ∧ j = .int .i64 (J : Int) ∧ k ≤ J + 1 ∧ wr.rowIs r 3 C (rvV L f n k) ∧ Below r w wr) (fun i j wr => n - (intOf i).toNat)
 case atStart => exact ⟨0, n - 1, by omega, rfl, by simp; omega, by omega, HR.out, Below.refl _ _⟩
 case round =>
  clear HR
  obtain ⟨k, J, hs, rfl, rfl, hkJ, hr, hbl⟩ := hrel
  by_cases hlt : k < J
  ·have c1 : wr.cell? ⟨r, k, none⟩ = some (.int .i64 (L.getD k 0)) := by rw [hr.cell (by omega), rvV_in (by omega) (by omega)]
   have c2 : wr.cell? ⟨r, J, none⟩ = some (.int .i64 (L.getD J 0)) := by rw [hr.cell (by omega), rvV_in (by omega) (by omega)]
   have f1 := hr.frozen k
   have f2 := hr.frozen J
   obtain ⟨x, hx⟩ : ∃ x, x = L.getD k 0 := ⟨_, rfl⟩
   obtain ⟨y, hy⟩ : ∃ y, y = L.getD J 0 := ⟨_, rfl⟩
   rw [← hx] at c1
   rw [← hy] at c2
   have HQ : Hid (∀ wz : World, wz.heap[r]? = ((wr.setCell ⟨r, k, none⟩ (.int .i64 y)).setCell ⟨r, J, none⟩ (.int .i64 x)).heap[r]? → wz.rowIs r 3 C (rvV L f n (k + 1))) := fun wz hz => ((hr.set k (.int .i64 y)).set J (.int .i64 x)).congr (fun j _ => by rw [rvV_step hs hlt, hx, hy]) |>.of_block hz
   clear hr hx hy
   have l1 : (k : Int) < (J : Int) := by omega
   have l2 : (k : Int) < (n : Int) := by omega
   have l3 : (J : Int) < (n : Int) := by omega
   have e1 : wrap64 ((k : Int) + 1) = (k : Int) + 1 := by unfold wrap64; omega
   have e2 : wrap64 ((J : Int) - 1) = (J : Int) - 1 := by unfold wrap64; omega
   have nkJ : k ≠ J := by omega
   go_wp2_with fail
   go_region
   all_goals
    go_wp2_with fail
    refine ⟨⟨k + 1, J - 1, by omega, by go_num, by simp; omega, by omega, HQ.out _ ?_, ?_⟩, by simp [intOf]; omega⟩
    ·first | rfl | (trace_state; done)
    ·go_grown
  ·have l1 : ¬ (k : Int) < (J : Int) := by omega
   have HF : Hid (Li wr r 0 L.reverse) := by
    intro j hj
    rw [List.length_reverse, HL.out] at hj
    rw [Nat.zero_add, hr.cell (by omega)]
    unfold rvV rvF
    have e : (L.reverse).getD j 0 = L.getD (n - 1 - j) 0 := by
     rw [List.getD_eq_getElem?_getD, List.getElem?_reverse (by rw [HL.out]; exact hj), HL.out, ← List.getD_eq_getElem?_getD]
    rw [if_pos hj, e]
    by_cases h1 : j < k ∨ n ≤ j + k
    ·rw [if_pos h1]
    ·rw [if_neg h1, show n - 1 - j = j by omega]
   clear hr
   go_wp2_with fail
   go_end0
   exact ⟨rfl, HF.out, hbl⟩
def stp (ns : List Nd) (i : Nat) (st : (Nat → Bool) × List Int) : (Nat → Bool) × List Int :=
 if st.1 i then
  match ns[i - 1]? with
  | some n => ((fun j => st.1 j || decide ((j : Int) = n.a) || decide ((j : Int) = n.b) || decide ((j : Int) = n.c)), st.2 ++ [(i : Int)])
  | none => st
 else st
def dn (ns : List Nd) (id : Nat) : Nat → (Nat → Bool) × List Int
 | 0 => ((fun j => decide (j = id)), [])
 | t + 1 => stp ns (id - t) (dn ns id t)
def coneF (ns : List Nd) (id : Nat) : List Int := (dn ns id id).2.reverse
def coneL (ns : List Nd) (i : Int) : List Int := if hasB ns.length i then coneF ns i.toNat else []
theorem dn_no {ns : List Nd} {id k : Nat} (hk : k < id) (h : (dn ns id (id - (k + 1))).1 (k + 1) = false) : dn ns id (id - k) = dn ns id (id - (k + 1)) := by
 rw [show id - k = (id - (k + 1)) + 1 by omega]
 show stp ns (id - (id - (k + 1))) _ = _
 rw [show id - (id - (k + 1)) = k + 1 by omega]
 unfold stp
 rw [if_neg (by rw [h]; decide)]
theorem dn_yes {ns : List Nd} {id k : Nat} {n : Nd} (hk : k < id) (h : (dn ns id (id - (k + 1))).1 (k + 1) = true) (hn : ns[k]? = some n) :
  dn ns id (id - k) = ((fun j => (dn ns id (id - (k + 1))).1 j || decide ((j : Int) = n.a) || decide ((j : Int) = n.b) || decide ((j : Int) = n.c)), (dn ns id (id - (k + 1))).2 ++ [(k : Int) + 1]) := by
 have e : dn ns id (id - k) = stp ns (k + 1) (dn ns id (id - (k + 1))) := by
  rw [show id - k = (id - (k + 1)) + 1 by omega]
  show stp ns (id - (id - (k + 1))) _ = _
  rw [show id - (id - (k + 1)) = k + 1 by omega]
 rw [e]
 unfold stp
 rw [if_pos h, show k + 1 - 1 = k by omega, hn]
 rfl
theorem stp_len (ns : List Nd) (i : Nat) (st : (Nat → Bool) × List Int) : (stp ns i st).2.length ≤ st.2.length + 1 := by
 unfold stp
 split
 ·split
  ·simp
  ·omega
 ·omega
theorem dn_len (ns : List Nd) (id : Nat) : ∀ t, (dn ns id t).2.length ≤ t
 | 0 => Nat.le_refl _
 | t + 1 => by
  have h1 := dn_len ns id t
  have h2 := stp_len ns (id - t) (dn ns id t)
  show (stp ns (id - t) (dn ns id t)).2.length ≤ t + 1
  omega
theorem dn_pos {ns : List Nd} {id : Nat} (h0 : 0 < id) (h : id ≤ ns.length) : ∀ t, (dn ns id (t + 1)).2 ≠ []
 | 0 => by
  have hn : ns[id - 1]? = some ns[id - 1] := List.getElem?_eq_getElem (by omega)
  show (stp ns (id - 0) (dn ns id 0)).2 ≠ []
  unfold stp
  rw [if_pos (by show decide (id - 0 = id) = true; simp), show id - 0 - 1 = id - 1 by omega, hn]
  exact List.append_ne_nil_of_right_ne_nil _ (by simp)
 | t + 1 => by
  have h1 := dn_pos h0 h t
  show (stp ns (id - (t + 1)) (dn ns id (t + 1))).2 ≠ []
  unfold stp
  split
  ·split
   ·exact List.append_ne_nil_of_left_ne_nil h1 _
   ·exact h1
  ·exact h1
theorem marks3 {w wz : World} {b n : Nat} {t : TypeId} {M F : Nat → Bool} {x y z : Nat} (h : w.rowIs b t n (fun j => .bool (M j))) (hF : ∀ j, F j = (M j || decide (j = x) || decide (j = y) || decide (j = z)))
  (hz : wz.heap[b]? = (((w.setCell ⟨b, x, none⟩ (.bool true)).setCell ⟨b, y, none⟩ (.bool true)).setCell ⟨b, z, none⟩ (.bool true)).heap[b]?) : wz.rowIs b t n (fun j => .bool (F j)) := by
 refine ((((h.set x (.bool true)).set y (.bool true)).set z (.bool true)).congr (fun j _ => ?_)).of_block hz
 rw [hF j]
 by_cases h1 : j = z
 ·simp [h1]
 ·by_cases h2 : j = y
  ·simp [h2]
  ·by_cases h3 : j = x
   ·simp [h3]
   ·simp [h1, h2, h3]
def Rl (w : World) (b : Nat) (v : Value) (l : List Int) : Prop := ∃ a c, v = .slice a l.length c ∧ l.length ≤ c ∧ l.length ≤ 5000 ∧ (l = [] ∨ ∃ r, a = some ⟨r, 0, none⟩ ∧ b ≤ r ∧ Li w r 0 l)
theorem ints_same {w : World} {b b' : Nat} {u v : Value} {l : List Int} (h : Rl w b u l) (h' : Rl w b' v l) :
  Rt 19 #[u, v] w (.bool true) := by
 obtain ⟨a, c, rfl, hc, h5, h⟩ := h
 obtain ⟨a', c', rfl, hc', -, h'⟩ := h'
 rcases h with rfl | ⟨r, rfl, -, h⟩
 ·show Rt 19 #[.slice a 0 c, .slice a' 0 c'] w (.bool true)
  go_enter Tryz.func19, Tryz.ntmps19
  go_wp2_with fail
  refine wp_loop_rounds 1 ?_
  rw [rounds_succ]
  go_wp2_with fail
  go_ret
  exact ⟨rfl, Below.refl _ _⟩
 ·rcases h' with rfl | ⟨r', rfl, -, h'⟩
  ·show Rt 19 #[.slice (some ⟨r, 0, none⟩) 0 c, .slice a' 0 c'] w (.bool true)
   go_enter Tryz.func19, Tryz.ntmps19
   go_wp2_with fail
   refine wp_loop_rounds 1 ?_
   rw [rounds_succ]
   go_wp2_with fail
   go_ret
   exact ⟨rfl, Below.refl _ _⟩
  ·have := ints_any (c := c) (c' := c') h h' (by omega) (by omega)
   rw [show decide (l = l) = true by simp] at this
   exact this
theorem size_alloc' (w : World) (o : Obj) : (w.alloc o).heap.size = w.heap.size + 1 := by simp
theorem app_facts {w wr w1 : World} {o : Obj} {u : Value} {L : List Int} {r g ci N cap k I A B1 C1 : Nat} {n : Nd} {M : Nat → Bool} (hbl : Below w.heap.size w wr) (hws : w.heap.size + 1 ≤ wr.heap.size) (hI : Is' wr (w.heap.size + 1) u L) (hgrow : (wr.alloc o).grownBy w1 u.ownBlock)
  (hg : g < w.heap.size) (hrl : r < w.heap.size) (hc1 : w.cell? ⟨g, ci, none⟩ = some (.slice (some ⟨r, 0, none⟩) N cap)) (hc : ∀ j x, n.cs[j]? = some x → w.cell? ⟨r, k * 11 + j, none⟩ = some x) (hA : n.a = (A : Int)) (hB : n.b = (B1 : Int)) (hC : n.c = (C1 : Int))
  (hrow : wr.rowIs w.heap.size 4 I (fun j => .bool (M j))) (a1 : A < I) (a2 : B1 < I) (a3 : C1 < I) :
  (w1.cell? ⟨g, ci, none⟩ = some (.slice (some ⟨r, 0, none⟩) N cap) ∧ w1.cell? ⟨r, k * 11, none⟩ = some (.int .i64 n.op) ∧ w1.cell? ⟨r, k * 11 + 1, none⟩ = some (.int .i64 n.s) ∧ w1.cell? ⟨r, k * 11 + 2, none⟩ = some (.int .i64 (A : Int)) ∧ w1.cell? ⟨r, k * 11 + 3, none⟩ = some (.int .i64 (B1 : Int)) ∧ w1.cell? ⟨r, k * 11 + 4, none⟩ = some (.int .i64 (C1 : Int)) ∧ w1.cell? ⟨r, k * 11 + 5, none⟩ = some (.int .i64 n.p) ∧ w1.cell? ⟨r, k * 11 + 6, none⟩ = some (.int .i64 n.q) ∧ w1.cell? ⟨r, k * 11 + 7, none⟩ = some (.int .i64 n.w) ∧ w1.cell? ⟨r, k * 11 + 8, none⟩ = some (.int .u64 n.lo) ∧ w1.cell? ⟨r, k * 11 + 9, none⟩ = some (.int .u64 n.hi) ∧ w1.cell? ⟨r, k * 11 + 10, none⟩ = some (.string n.nm)) ∧
  (w1.cell? ⟨w.heap.size, A, none⟩ = some (.bool (M A)) ∧ w1.cell? ⟨w.heap.size, B1, none⟩ = some (.bool (M B1)) ∧ w1.cell? ⟨w.heap.size, C1, none⟩ = some (.bool (M C1)) ∧ w1.frozen? ⟨w.heap.size, A, none⟩ = false ∧ w1.frozen? ⟨w.heap.size, B1, none⟩ = false ∧ w1.frozen? ⟨w.heap.size, C1, none⟩ = false) ∧
  w.heap.size + 1 ≤ w1.heap.size ∧ Below w.heap.size w w1 ∧ w1.rowIs w.heap.size 4 I (fun j => .bool (M j)) := by
 have hrw : ∀ q, u.ownBlock = some q → w.heap.size + 1 ≤ q := fun q hq => (hI.lt q hq).1
 have hb1 : Below w.heap.size w w1 := low_grown hbl (by omega) hgrow (fun q hq => by have := hrw q hq; omega)
 have hsw : w.heap.size < wr.heap.size := by omega
 have hbk : w1.heap[w.heap.size]? = wr.heap[w.heap.size]? := (hgrow.block w.heap.size (by rw [size_alloc']; omega) (fun e => by have := hrw _ e.symm; omega)).trans (heap_alloc_old _ _ hsw)
 have hR : w1.rowIs w.heap.size 4 I (fun j => .bool (M j)) := hrow.of_block hbk
 have hs1 : w.heap.size + 1 ≤ w1.heap.size := by have := hgrow.size; rw [size_alloc'] at this; omega
 exact ⟨⟨bel_cell hb1 hg hc1, bel_cell hb1 hrl (hc 0 _ rfl), bel_cell hb1 hrl (hc 1 _ rfl), by rw [← hA]; exact bel_cell hb1 hrl (hc 2 _ rfl), by rw [← hB]; exact bel_cell hb1 hrl (hc 3 _ rfl), by rw [← hC]; exact bel_cell hb1 hrl (hc 4 _ rfl), bel_cell hb1 hrl (hc 5 _ rfl), bel_cell hb1 hrl (hc 6 _ rfl), bel_cell hb1 hrl (hc 7 _ rfl), bel_cell hb1 hrl (hc 8 _ rfl), bel_cell hb1 hrl (hc 9 _ rfl), bel_cell hb1 hrl (hc 10 _ rfl)⟩, ⟨hR.cell a1, hR.cell a2, hR.cell a3, hR.frozen A, hR.frozen B1, hR.frozen C1⟩, hs1, hb1, hR⟩
theorem under56 : Tryz.prog.underlying 67 = some (.slice 4) := by kernel_rfl
theorem info4y : (Tryz.prog.info? 4).map (fun i => (i.zero, i.size, i.bytes)) = some (some (.bool false), 1, 1) := by kernel_rfl
theorem info_any {t : TypeId} {z : Value} {s b : Nat} (h : (Tryz.prog.info? t).map (fun i => (i.zero, i.size, i.bytes)) = some (some z, s, b)) : ∃ i, Tryz.prog.info? t = some i ∧ i.zero = some z ∧ i.size = s ∧ i.bytes = b := by
 obtain ⟨i, hi, e⟩ := Option.map_eq_some_iff.1 h
 simp at e
 exact ⟨i, hi, e.1, e.2.1, e.2.2⟩
theorem cone_yes {w : World} {B g mi mv mo : Nat} {v : Value} {ns : List Nd} (h : Gr w B g mi mv v mo ns) {id : Nat} (h0 : 0 < id) (hid : id ≤ ns.length) :
  Calls Tryz.prog 27 #[.pointer (some ⟨g, 0, none⟩), .int .i64 (id : Int)] w fun e w' => ∃ u, e = .returned u ∧ Rl w' w.heap.size u (coneF ns id) ∧ Below w.heap.size w w' := by
 have hlen := h.len
 have H : Hid (Calls Tryz.prog 37 #[.pointer (some ⟨g, 0, none⟩), .int .i64 (id : Int)] w fun e w' => e = .returned (.bool true) ∧ w' = w) := by
  have e : hasB ns.length (id : Int) = true := by simp [hasB]; omega
  have := has_any h (id : Int)
  rw [e] at this; exact this
 have c1 := h.c1
 have hg := h.lt
 have HKD : Hid _ := h.inv.kids
 obtain ⟨r, cap, rfl, hBr, hrl, hc⟩ := row_all h.row (by omega)
 have HC : Hid _ := hc
 have HC1 : Hid _ := c1
 obtain ⟨t0, ht0, hz0, hz1, hz2⟩ := info_parts info3
 have HI0 : Hid (Tryz.prog.info? 3 = some t0 ∧ t0.zero = some (.int .i64 0) ∧ t0.size = 1 ∧ t0.bytes = 8) := ⟨ht0, hz0, hz1, hz2⟩
 obtain ⟨I, hI⟩ : ∃ I : Nat, I = id + 1 := ⟨_, rfl⟩
 obtain ⟨t4, h40, h41, h42, h43⟩ := info_any info4y
 have hmk : ∀ wx, (Instr.makeSlice 67 (.int .i64 ((id : Int) + 1)) (.int .i64 ((id : Int) + 1))).run Tryz.prog wx = .ok (.slice (some ⟨wx.heap.size, 0, none⟩) I I) (wx.alloc (.cells (madeCells #[.bool false] I) 4)) := fun wx => by
  have hx := run_make_row (P := Tryz.prog) 67 4 t4 (.bool false) under56 h40 h41 h42 rfl .i64 .i64 I (by rw [h43]; omega) (by omega) wx
  rw [show (I : Int) = (id : Int) + 1 by omega] at hx
  exact hx
 have hidI : (id : Int) < (I : Int) := by omega
 have HROW : Hid ((w.alloc (.cells ((madeCells #[.bool false] I).setIfInBounds id (.bool true)) 4)).rowIs w.heap.size 4 I (fun j => .bool ((dn ns id 0).1 j))) :=
  ⟨_, heap_alloc_new w _, by rw [Array.size_setIfInBounds]; exact size_madeCells _ _, fun j hj => by
   show _ = some (Value.bool (decide (j = id)))
   rw [Array.getElem?_setIfInBounds]
   by_cases e : j = id
   ·subst e; simp [size_madeCells, hj]
   ·rw [if_neg (fun x => e x.symm)]; simp [madeCells, hj, e, Nat.mod_one]⟩
 have kc : (w.alloc (.cells (madeCells #[.bool false] I) 4)).cell? ⟨w.heap.size, id, none⟩ = some (.bool false) := (World.rowIs_made w (.bool false) I 4).cell (by omega)
 have kf : (w.alloc (.cells (madeCells #[.bool false] I) 4)).frozen? ⟨w.heap.size, id, none⟩ = false := (World.rowIs_made w (.bool false) I 4).frozen id
 obtain ⟨N, hN⟩ : ∃ N, N = ns.length := ⟨_, rfl⟩
 have HNL : Hid _ := hN
 rw [← hN] at hid hlen HC1 c1
 clear h hc c1 ht0 hz0 hz1 hz2 hBr h40 h41 h42 h43 hN hI
 go_enter Tryz.func27, Tryz.ntmps27
 go_wp2_with fail
 refine Calls.mono H.out ?_
 rintro e wz ⟨rfl, hw⟩
 rw [hw]
 clear hw wz
 go_wp2_with fail
 clear hmk kc kf
 go_loopw [5, 7] (fun v i wr => ∃ k : Nat, k ≤ id ∧ i = .int .i64 (k : Int) ∧ Is' wr (w.heap.size + 1) v (dn ns id (id - k)).2 ∧ wr.rowIs w.heap.size 4 I (fun j => .bool ((dn ns id (id - k)).1 j)) ∧ w.heap.size + 1 ≤ wr.heap.size ∧ Below w.heap.size w wr) (fun v i wr => (intOf i).toNat)
 case atStart =>
  refine ⟨id, Nat.le_refl _, rfl, ?_, ?_, by simp, by go_grown⟩
  ·rw [Nat.sub_self]; exact World.ownsRow_nil _ _ _ _
  ·rw [Nat.sub_self]; exact HROW.out
 case round =>
  clear HROW H
  obtain ⟨k0, hk, rfl, hIs, hrow, hws, hbl⟩ := hrel
  by_cases hk0 : k0 = 0
  ·subst hk0
   rw [Nat.sub_zero] at hIs
   have hne : (dn ns id id).2 ≠ [] := by
    obtain ⟨t, rfl⟩ : ∃ t, id = t + 1 := ⟨id - 1, by omega⟩
    exact dn_pos h0 (by rw [← HNL.out]; exact hid) t
   have hl5 := dn_len ns id id
   have hl0 : 0 < (dn ns id id).2.length := List.length_pos_iff.2 hne
   obtain ⟨r1, cap1, C1, f1, rfl, hr1, hcap1, hrow1, hC1, hf1⟩ := hIs.row hne
   have HRV : Hid _ := rev_any (cap := cap1) rfl hrow1 hf1 hC1 (by omega) hl0
   have HLL : Hid _ := hcap1
   have HLM : Hid ((dn ns id id).2.length ≤ 5000) := by unfold Hid; omega
   obtain ⟨L, hL⟩ : ∃ L, L = (dn ns id id).2 := ⟨_, rfl⟩
   have HCF : Hid (coneF ns id = L.reverse) := by unfold Hid coneF; rw [hL]
   rw [← hL] at HRV HLL HLM
   rw [← hL]
   clear hIs hrow hrow1 hf1 hne hl5 hl0 hL
   go_wp2_with fail
   refine Calls.mono HRV.out ?_
   rintro e w2 ⟨rfl, hLi, hb2⟩
   have HLi : Hid _ := hLi
   clear hLi
   go_wp2_with fail
   go_ret
   refine ⟨.slice (some ⟨r1, 0, none⟩) L.length cap1, rfl, ⟨some ⟨r1, 0, none⟩, cap1, by rw [HCF.out, List.length_reverse], by rw [HCF.out, List.length_reverse]; exact HLL.out, by rw [HCF.out, List.length_reverse]; exact HLM.out, Or.inr ⟨r1, rfl, by omega, by rw [HCF.out]; exact HLi.out⟩⟩, hbl.trans (hb2.mono (by omega))⟩
  ·obtain ⟨k, rfl⟩ : ∃ k, k0 = k + 1 := ⟨k0 - 1, by omega⟩
   clear hk0
   obtain ⟨n, hn⟩ : ∃ n, ns[k]? = some n := ⟨_, List.getElem?_eq_getElem (by rw [← HNL.out]; omega)⟩
   have HNN : Hid _ := hn
   have cm : wr.cell? ⟨w.heap.size, k + 1, none⟩ = some (.bool ((dn ns id (id - (k + 1))).1 (k + 1))) := hrow.cell (by omega)
   rw [show ((k + 1 : Nat) : Int) = (k : Int) + 1 from rfl]
   have x1 : (0 : Int) < (k : Int) + 1 := by omega
   have x2 : (k : Int) + 1 < (I : Int) := by omega
   have x3 : wrap64 (k : Int) = (k : Int) := wrap_small (by omega)
   have x4 : (k : Int) < (N : Int) := by omega
   have hsw : w.heap.size < wr.heap.size := by omega
   by_cases hm : (dn ns id (id - (k + 1))).1 (k + 1) = true
   ·have HST : Hid _ := dn_yes (by omega) hm hn
    rw [hm] at cm
    have HLN : Hid ((dn ns id (id - (k + 1))).2.length ≤ 5000) := by unfold Hid; have := dn_len ns id (id - (k + 1)); omega
    obtain ⟨M, hM⟩ : ∃ M, M = (dn ns id (id - (k + 1))).1 := ⟨_, rfl⟩
    obtain ⟨L, hL⟩ : ∃ L, L = (dn ns id (id - (k + 1))).2 := ⟨_, rfl⟩
    rw [← hM] at HST hrow
    rw [← hL] at HST HLN hIs
    have HI : Hid _ := hIs
    have HRW : Hid _ := hrow
    have hkd := HKD.out k n hn
    obtain ⟨A, hA0⟩ : ∃ A : Nat, n.a = (A : Int) := ⟨n.a.toNat, by omega⟩
    obtain ⟨B1, hB0⟩ : ∃ B1 : Nat, n.b = (B1 : Int) := ⟨n.b.toNat, by omega⟩
    obtain ⟨C1, hC0⟩ : ∃ C1 : Nat, n.c = (C1 : Int) := ⟨n.c.toNat, by omega⟩
    have hA : Hid _ := hA0
    have hB : Hid _ := hB0
    have hC : Hid _ := hC0
    have a1 : (A : Int) < (I : Int) := by omega
    have a2 : (B1 : Int) < (I : Int) := by omega
    have a3 : (C1 : Int) < (I : Int) := by omega
    have a1' : A < I := by omega
    have a2' : B1 < I := by omega
    have a3' : C1 < I := by omega
    have HF : Hid (∀ j, (dn ns id (id - k)).1 j = (M j || decide (j = A) || decide (j = B1) || decide (j = C1))) := fun j => by
     rw [HST.out]
     show (M j || decide ((j : Int) = n.a) || decide ((j : Int) = n.b) || decide ((j : Int) = n.c)) = _
     rw [hA0, hB0, hC0]
     simp only [Int.ofNat_inj]
    have HL2 : Hid ((dn ns id (id - k)).2 = L ++ [(k : Int) + 1]) := by unfold Hid; rw [HST.out]
    clear hM hL hm hIs hrow hn hkd hA0 hB0 hC0 HST
    go_wp2_with (at_builtin; refine wpList_append_own_at _ rfl _ _ 34 rfl (w.heap.size + 1) 3 t0 (.int .i64 0) 1 8 under45 HI0.out.1 HI0.out.2.1 HI0.out.2.2.1 HI0.out.2.2.2 rfl (by decide) _ _ _ rfl (row_kept HI.out (fun _ hq => heap_alloc_old _ _ hq)) ⟨wr.heap.size, 0, none⟩ 1 1 [.int .i64 ((k : Int) + 1)] rfl rfl (cell_one_new _ _ _) (ones [(k : Int) + 1]) (by have := HLN.out; unfold maxLen; omega) (by have := HLN.out; omega) (by simp; omega) ?_; intro v1 w1 hown hgrow hnil hat; obtain ⟨⟨c1, d0, d1, d2, d3, d4, d5, d6, d7, d8, d9, d10⟩, ⟨m1, m2, m3, f1, f2, f3⟩, hs1, hb1, hR1⟩ := app_facts hbl hws HI.out hgrow hg hrl HC1.out (HC.out k n HNN.out) hA.out hB.out hC.out HRW.out a1' a2' a3'; have HRW1 : Hid _ := hR1; have hsw1 : w.heap.size < w1.heap.size := (by omega); have hrw1 : r < w1.heap.size := (by omega); have hgw1 : g < w1.heap.size := (by omega); have HOW : Hid (Is' w1 (w.heap.size + 1) v1 (dn ns id (id - k)).2) := (by unfold Hid Is'; rw [HL2.out, List.map_append, List.length_append]; exact hown); clear hown hgrow hnil hat hR1; clear cm)
    have HRR : Hid (w1.rowIs w.heap.size 4 I (fun j => .bool (M j))) := HRW1.out
    obtain ⟨q1, p1⟩ : ∃ q, (w1.setCell ⟨w.heap.size, A, none⟩ (.bool true)).cell? ⟨w.heap.size, B1, none⟩ = some q := ⟨_, ((show w1.rowIs w.heap.size 4 I (fun j => .bool (M j)) from HRR.out).set A _).cell a2'⟩
    obtain ⟨q2, p2⟩ : ∃ q, (w1.setCell ⟨w.heap.size, A, none⟩ (.bool true)).cell? ⟨w.heap.size, C1, none⟩ = some q := ⟨_, ((show w1.rowIs w.heap.size 4 I (fun j => .bool (M j)) from HRR.out).set A _).cell a3'⟩
    obtain ⟨q3, p3⟩ : ∃ q, (w1.setCell ⟨w.heap.size, B1, none⟩ (.bool true)).cell? ⟨w.heap.size, A, none⟩ = some q := ⟨_, ((show w1.rowIs w.heap.size 4 I (fun j => .bool (M j)) from HRR.out).set B1 _).cell a1'⟩
    obtain ⟨q4, p4⟩ : ∃ q, (w1.setCell ⟨w.heap.size, B1, none⟩ (.bool true)).cell? ⟨w.heap.size, C1, none⟩ = some q := ⟨_, ((show w1.rowIs w.heap.size 4 I (fun j => .bool (M j)) from HRR.out).set B1 _).cell a3'⟩
    obtain ⟨q5, p5⟩ : ∃ q, (w1.setCell ⟨w.heap.size, C1, none⟩ (.bool true)).cell? ⟨w.heap.size, A, none⟩ = some q := ⟨_, ((show w1.rowIs w.heap.size 4 I (fun j => .bool (M j)) from HRR.out).set C1 _).cell a1'⟩
    obtain ⟨q6, p6⟩ : ∃ q, (w1.setCell ⟨w.heap.size, C1, none⟩ (.bool true)).cell? ⟨w.heap.size, B1, none⟩ = some q := ⟨_, ((show w1.rowIs w.heap.size 4 I (fun j => .bool (M j)) from HRR.out).set C1 _).cell a2'⟩
    obtain ⟨q7, p7⟩ : ∃ q, ((w1.setCell ⟨w.heap.size, A, none⟩ (.bool true)).setCell ⟨w.heap.size, B1, none⟩ (.bool true)).cell? ⟨w.heap.size, C1, none⟩ = some q := ⟨_, (((show w1.rowIs w.heap.size 4 I (fun j => .bool (M j)) from HRR.out).set A _).set B1 _).cell a3'⟩
    obtain ⟨q8, p8⟩ : ∃ q, ((w1.setCell ⟨w.heap.size, A, none⟩ (.bool true)).setCell ⟨w.heap.size, C1, none⟩ (.bool true)).cell? ⟨w.heap.size, B1, none⟩ = some q := ⟨_, (((show w1.rowIs w.heap.size 4 I (fun j => .bool (M j)) from HRR.out).set A _).set C1 _).cell a2'⟩
    obtain ⟨q9, p9⟩ : ∃ q, ((w1.setCell ⟨w.heap.size, B1, none⟩ (.bool true)).setCell ⟨w.heap.size, A, none⟩ (.bool true)).cell? ⟨w.heap.size, C1, none⟩ = some q := ⟨_, (((show w1.rowIs w.heap.size 4 I (fun j => .bool (M j)) from HRR.out).set B1 _).set A _).cell a3'⟩
    obtain ⟨q10, p10⟩ : ∃ q, ((w1.setCell ⟨w.heap.size, B1, none⟩ (.bool true)).setCell ⟨w.heap.size, C1, none⟩ (.bool true)).cell? ⟨w.heap.size, A, none⟩ = some q := ⟨_, (((show w1.rowIs w.heap.size 4 I (fun j => .bool (M j)) from HRR.out).set B1 _).set C1 _).cell a1'⟩
    obtain ⟨q11, p11⟩ : ∃ q, ((w1.setCell ⟨w.heap.size, C1, none⟩ (.bool true)).setCell ⟨w.heap.size, A, none⟩ (.bool true)).cell? ⟨w.heap.size, B1, none⟩ = some q := ⟨_, (((show w1.rowIs w.heap.size 4 I (fun j => .bool (M j)) from HRR.out).set C1 _).set A _).cell a2'⟩
    obtain ⟨q12, p12⟩ : ∃ q, ((w1.setCell ⟨w.heap.size, C1, none⟩ (.bool true)).setCell ⟨w.heap.size, B1, none⟩ (.bool true)).cell? ⟨w.heap.size, A, none⟩ = some q := ⟨_, (((show w1.rowIs w.heap.size 4 I (fun j => .bool (M j)) from HRR.out).set C1 _).set B1 _).cell a1'⟩
    go_region
    all_goals
     go_wp2_with fail
     refine ⟨⟨k, by omega, by go_num, row_sets HOW.out ?_, ?_, ?_, ?_⟩, by simp [intOf]⟩
     ·intro q hq hl
      simp only [World.drew]
      refine (heap_alloc_old _ _ (by simp; exact hl)).trans ?_
      repeat rw [heap_setCell_other _ _ _ _ (by show q ≠ w.heap.size; omega)]
     ·refine marks3 (w := w1) (x := A) (y := B1) (z := C1) HRR.out (fun j => by rw [HF.out j]) ?_
      simp only [World.drew]
      exact heap_alloc_old _ _ (by simp; exact hsw1)
     ·simp; omega
     ·go_grown
   ·rw [Bool.not_eq_true] at hm
    rw [hm] at cm
    have HST : Hid _ := dn_no (by omega) hm
    have HI : Hid _ := hIs
    have HRW : Hid _ := hrow
    clear hIs hrow hm hn
    go_wp2_with fail
    exact ⟨⟨k, by omega, by go_num, by rw [HST.out]; exact HI.out, by rw [HST.out]; exact HRW.out, hws, hbl⟩, by simp [intOf]⟩
theorem cone_no {w : World} {B g mi mv mo : Nat} {v : Value} {ns : List Nd} (h : Gr w B g mi mv v mo ns) {i : Int} (hi : hasB ns.length i = false) :
  Rt 27 #[.pointer (some ⟨g, 0, none⟩), .int .i64 i] w (.slice none 0 0) := by
 have H : Hid (Calls Tryz.prog 37 #[.pointer (some ⟨g, 0, none⟩), .int .i64 i] w fun e w' => e = .returned (.bool false) ∧ w' = w) := by
  have := has_any h i
  rw [hi] at this; exact this
 clear h hi
 go_enter Tryz.func27, Tryz.ntmps27
 go_wp2_with fail
 refine Calls.mono H.out ?_
 rintro e wz ⟨rfl, hw⟩
 rw [hw]
 clear hw wz
 go_wp2_with fail
 go_ret
 exact ⟨rfl, Below.refl _ _⟩
theorem cone_any {w : World} {B g mi mv mo : Nat} {v : Value} {ns : List Nd} (h : Gr w B g mi mv v mo ns) (i : Int) :
  Calls Tryz.prog 27 #[.pointer (some ⟨g, 0, none⟩), .int .i64 i] w fun e w' => ∃ u, e = .returned u ∧ Rl w' w.heap.size u (coneL ns i) ∧ Below w.heap.size w w' := by
 unfold coneL
 cases hb : hasB ns.length i
 ·refine (cone_no h hb).mono ?_
  rintro e w' ⟨rfl, hb⟩
  exact ⟨_, rfl, ⟨none, 0, rfl, Nat.le_refl _, by simp, Or.inl rfl⟩, hb⟩
 ·have h' : 1 ≤ i ∧ i ≤ (ns.length : Int) := by simpa [hasB] using hb
  have e : (i.toNat : Int) = i := by omega
  have hc := cone_yes h (id := i.toNat) (by omega) (by omega)
  rw [e] at hc
  exact hc
theorem Is'.rl {w : World} {base : Nat} {v : Value} {l : List Int} (h : Is' w base v l) (h5 : l.length ≤ 5000) : Rl w base v l := by
 by_cases hl : l = []
 ·subst hl
  rcases h.2 with ⟨rfl, hn⟩ | ⟨r, cap, cur, rfl, hb, hg, hc, _, hs, ht⟩
  ·exact ⟨none, 0, rfl, Nat.le_refl _, by simp, Or.inl rfl⟩
  ·exact ⟨_, cap, rfl, by simp, by simp, Or.inl rfl⟩
 ·obtain ⟨r, cap, rfl, hb, hc, hLi⟩ := h.li hl
  exact ⟨_, cap, rfl, hc, h5, Or.inr ⟨r, rfl, hb, hLi⟩⟩
end Go.Proofs.YtcahhahbcijkiaaGreat
