import Derived.Test.YtedldoobmmhloaaH
import Derived.Test.YtedldoobmmhloaaMg2
import Derived.Test.YtedldoobmmhloaaMg3
namespace Go.Proofs.Ytedldoobmmhloaa
set_option maxHeartbeats 12800000
set_option maxRecDepth 100000
open Go.RowKit
set_option linter.unusedSimpArgs false
set_option linter.unusedVariables false
theorem right_out0 {A : Int} {N : Nat} (h : A < 0 ∨ 128 < A) (w : World) :
  Calls Try.prog 22 #[.agg #[.int .i64 A, .int .u64 (LO (N)), .int .u64 (HI (N))]] w fun e w' => e = .returned (.bool false) ∧ Below w.heap.size w w' := by
 by_cases h0 : A < 0
 ·go_enter Try.func22, Try.ntmps22
  go_wp2_with fail
  go_ret
  exact ⟨rfl, by go_grown⟩
 ·have h1 : 128 < A := by omega
  go_enter Try.func22, Try.ntmps22
  go_wp2_with fail
  go_ret
  exact ⟨rfl, by go_grown⟩
theorem right_big0 {W N : Nat} (h1 : 1 ≤ W) (h2 : W ≤ 128) (hN : N < 2 ^ 128) (hb : ¬ N < 2 ^ W) (w : World) :
  Calls Try.prog 22 #[.agg #[.int .i64 W, .int .u64 (LO (N)), .int .u64 (HI (N))]] w fun e w' => e = .returned (.bool false) ∧ Below w.heap.size w w' := by
 have hd : decide ((W : Int) < 0) = false := by simp only [decide_eq_false_iff_not]; omega
 have hd2 : decide ((128 : Int) < W) = false := by simp only [decide_eq_false_iff_not]; omega
 have hd3 : ((W : Int) == 0) = false := by simp; omega
 obtain ⟨r, hr⟩ : ∃ r, N % 2 ^ W = r := ⟨_, rfl⟩
 have hq : eqB N r = false := eqB_no (fun e => hb (by rw [e, ← hr]; exact mod_lt_W _ _))
 have HR : Hid _ := hr
 clear hr hb
 have hqe := eq_w
 go_enter Try.func22, Try.ntmps22
 go_wp2_with fail
 go_region_held3 (fun x => x.cell? ⟨w.heap.size, 0, none⟩ = some (.int .i64 W) ∧ x.cell? ⟨w.heap.size, 1, none⟩ = some (.int .u64 (LO (N))) ∧ x.cell? ⟨w.heap.size, 2, none⟩ = some (.int .u64 (HI (N))) ∧ Below w.heap.size w x)
  ((refine ⟨?_, ?_, ?_, ?_⟩ <;> first | (simp [go_sem]; done) | (refine cv_some ?_; simp [go_sem]; done) | (simp [go_sem, KFr, KFrz0]; done) | (refine cv_some ?_; simp [go_sem, KFr, KFrz0]; done) | (refine put_below ?_ ?_ <;> first | assumption | omega) | (have hH := ‹_ ∧ _ ∧ _ ∧ _›; exact put_below hH.2.2.2 (by omega)) | go_grown))
  ((first | (go_at_call 34; refine (cut_any (m := N) (r := r) h1 h2 hN HR.out rfl rfl rfl _).mono ?_; rintro e wq ⟨rfl, hb⟩; have hb' := below_step (w := w) (by go_grown) hb; have hs := hb'.size; have KFr : wq.cell? ⟨w.heap.size, 0, none⟩ = some (.int .i64 W) ∧ wq.cell? ⟨w.heap.size, 1, none⟩ = some (.int .u64 (LO (N))) ∧ wq.cell? ⟨w.heap.size, 2, none⟩ = some (.int .u64 (HI (N))) := (by refine ⟨keep_cell hb ?_, keep_cell hb ?_, keep_cell hb ?_⟩ <;> (first | (simp [go_sem]; done) | (simp [go_sem, KFr]; done) | (simp [go_sem, KFr, World.cell?_alloc_some, frozen?_alloc_cells]; done))); have KFrz0 : w.heap.size < wq.heap.size := World.block_lt_of_cell? _ _ KFr.1; clear hb)))
 obtain ⟨-, -, -, hBq⟩ := ‹_ ∧ _ ∧ _ ∧ _›
 go_wp2_with fail
 go_ret
 exact ⟨rfl, by go_grown⟩
theorem eq_b0 (lo hi x : Int) (w : World) : (binOp .eql 25 (.agg #[.int .i64 0, .int .u64 lo, .int .u64 hi]) (.agg #[.int .i64 0, .int .u64 x, .int .u64 0])).run Try.prog w = .ok (.bool (decide (lo = x) && decide (hi = 0))) w := by
 by_cases h1 : lo = x
 ·by_cases h2 : hi = 0 <;> simp [go_sem, h1, h2]
 ·simp [go_sem, h1]
theorem right_zero (lo hi : Int) (w : World) :
  Calls Try.prog 22 #[.agg #[.int .i64 0, .int .u64 lo, .int .u64 hi]] w fun e w' => e = .returned (.bool ((decide (lo = 0) && decide (hi = 0)) || (decide (lo = 1) && decide (hi = 0)))) ∧ Below w.heap.size w w' := by
 have hqe := eq_b0
 cases hz : (decide (lo = 0) && decide (hi = 0))
 ·go_enter Try.func22, Try.ntmps22
  go_wp2_with fail
  go_region_held3 (fun x => x.cell? ⟨w.heap.size, 0, none⟩ = some (.int .i64 0) ∧ x.cell? ⟨w.heap.size, 1, none⟩ = some (.int .u64 lo) ∧ x.cell? ⟨w.heap.size, 2, none⟩ = some (.int .u64 hi) ∧ (∀ o, x.frozen? ⟨w.heap.size, o, none⟩ = false) ∧ Below w.heap.size w x)
   ((refine ⟨?_, ?_, ?_, ?_, ?_⟩ <;> first | (simp [go_sem]; done) | (refine cv_some ?_; simp [go_sem]; done) | (simp [go_sem, KFr, KFrz0]; done) | (refine cv_some ?_; simp [go_sem, KFr, KFrz0]; done) | (refine put_below ?_ ?_ <;> first | assumption | omega) | (have hH := ‹_ ∧ _ ∧ _ ∧ _ ∧ _›; exact put_below hH.2.2.2.2 (by omega)) | go_grown))
   ((first | (go_at_call_of 33 (Value.bool false); refine (bool_any false _).mono ?_; rintro e wq ⟨rfl, hb⟩; have hb' := below_step (w := w) (by go_grown) hb; have hs := hb'.size; have KFr : T3 wq w.heap.size (.int .i64 0) (.int .u64 lo) (.int .u64 hi) <| (∀ o, wq.frozen? ⟨w.heap.size, o, none⟩ = false) := (by refine k3 hb ?_ ?_ ?_ <| keep_frozen2 hb ?_ ?_ <;> (first | (simp [go_sem]; done) | (simp [go_sem, KFr]; done) | (simp [go_sem, KFr, World.cell?_alloc_some, frozen?_alloc_cells]; done))); have KFrz0 : w.heap.size < wq.heap.size := World.block_lt_of_cell? _ _ KFr.1; clear hb) | (go_at_call_of 33 (Value.bool true); refine (bool_any true _).mono ?_; rintro e wq ⟨rfl, hb⟩; have hb' := below_step (w := w) (by go_grown) hb; have hs := hb'.size; have KFr : T3 wq w.heap.size (.int .i64 0) (.int .u64 lo) (.int .u64 hi) <| (∀ o, wq.frozen? ⟨w.heap.size, o, none⟩ = false) := (by refine k3 hb ?_ ?_ ?_ <| keep_frozen2 hb ?_ ?_ <;> (first | (simp [go_sem]; done) | (simp [go_sem, KFr]; done) | (simp [go_sem, KFr, World.cell?_alloc_some, frozen?_alloc_cells]; done))); have KFrz0 : w.heap.size < wq.heap.size := World.block_lt_of_cell? _ _ KFr.1; clear hb)))
  obtain ⟨-, -, -, -, hBq⟩ := ‹_ ∧ _ ∧ _ ∧ _ ∧ _›
  go_wp2_with fail
  go_ret
  exact ⟨rfl, by go_grown⟩
 ·go_enter Try.func22, Try.ntmps22
  go_wp2_with fail
  go_region_with ((first | (go_at_call_of 33 (Value.bool false); refine (bool_any false _).mono ?_; rintro e wq ⟨rfl, hb⟩; have hb' := below_step (w := w) (by go_grown) hb; have hs := hb'.size; have KFr : T3 wq w.heap.size (.int .i64 0) (.int .u64 lo) (.int .u64 hi) <| (∀ o, wq.frozen? ⟨w.heap.size, o, none⟩ = false) := (by refine k3 hb ?_ ?_ ?_ <| keep_frozen2 hb ?_ ?_ <;> (first | (simp [go_sem]; done) | (simp [go_sem, KFr]; done) | (simp [go_sem, KFr, World.cell?_alloc_some, frozen?_alloc_cells]; done))); have KFrz0 : w.heap.size < wq.heap.size := World.block_lt_of_cell? _ _ KFr.1; clear hb) | (go_at_call_of 33 (Value.bool true); refine (bool_any true _).mono ?_; rintro e wq ⟨rfl, hb⟩; have hb' := below_step (w := w) (by go_grown) hb; have hs := hb'.size; have KFr : T3 wq w.heap.size (.int .i64 0) (.int .u64 lo) (.int .u64 hi) <| (∀ o, wq.frozen? ⟨w.heap.size, o, none⟩ = false) := (by refine k3 hb ?_ ?_ ?_ <| keep_frozen2 hb ?_ ?_ <;> (first | (simp [go_sem]; done) | (simp [go_sem, KFr]; done) | (simp [go_sem, KFr, World.cell?_alloc_some, frozen?_alloc_cells]; done))); have KFrz0 : w.heap.size < wq.heap.size := World.block_lt_of_cell? _ _ KFr.1; clear hb)))
  all_goals
   go_wp2_with fail
   go_ret
   exact ⟨rfl, by go_grown⟩
def rgt (w lo hi : Int) : Bool := decide (0 ≤ w) && decide (w ≤ 128) && (if w = 0 then (decide (lo = 0) && decide (hi = 0)) || (decide (lo = 1) && decide (hi = 0)) else decide (lo + 18446744073709551616 * hi < 2 ^ w.toNat))
theorem right_all {A lo hi : Int} (l0 : 0 ≤ lo) (l1 : lo < 18446744073709551616) (h0 : 0 ≤ hi) (h1 : hi < 18446744073709551616) (w : World) :
  Calls Try.prog 22 #[.agg #[.int .i64 A, .int .u64 lo, .int .u64 hi]] w fun e w' => e = .returned (.bool (rgt A lo hi)) ∧ Below w.heap.size w w' := by
 obtain ⟨N, hN⟩ : ∃ N : Nat, N = (lo + 18446744073709551616 * hi).toNat := ⟨_, rfl⟩
 have hN2 : N < 2 ^ 128 := by omega
 have el : lo = LO N := by unfold LO; omega
 have eh : hi = HI N := by unfold HI; omega
 by_cases ho : A < 0 ∨ 128 < A
 ·have e : rgt A lo hi = false := by unfold rgt; rcases ho with h | h <;> simp [show ¬ 0 ≤ A ∨ ¬ A ≤ 128 from by omega] <;> omega
  rw [e, el, eh]
  exact right_out0 ho w
 ·by_cases hz : A = 0
  ·subst hz
   have e : rgt 0 lo hi = ((decide (lo = 0) && decide (hi = 0)) || (decide (lo = 1) && decide (hi = 0))) := by simp [rgt]
   rw [e]
   exact right_zero lo hi w
  ·obtain ⟨W, rfl⟩ : ∃ W : Nat, A = W := ⟨A.toNat, by omega⟩
   have e : rgt (W : Int) lo hi = decide (N < 2 ^ W) := by
    unfold rgt
    rw [if_neg hz, show decide (0 ≤ (W : Int)) = true by simp, show decide ((W : Int) ≤ 128) = true by simp; omega, Int.toNat_natCast]
    simp only [Bool.true_and, decide_eq_decide]
    have e2 : ((2 : Int) ^ W) = ((2 ^ W : Nat) : Int) := by simp
    rw [e2]
    omega
   rw [e, el, eh]
   by_cases hlt : N < 2 ^ W
   ·rw [show decide (N < 2 ^ W) = true by simp [hlt]]
    exact right_any ⟨by omega, by omega, hlt, rfl, rfl, rfl⟩ w
   ·rw [show decide (N < 2 ^ W) = false by simp [hlt]]
    exact right_big0 (by omega) (by omega) hN2 hlt w
structure Nd where
 op : Int
 s : Int
 a : Int
 b : Int
 c : Int
 p : Int
 q : Int
 w : Int
 lo : Int
 hi : Int
 nm : ByteArray
def Nd.cs (n : Nd) : List Value := [.int .i64 n.op, .int .i64 n.s, .int .i64 n.a, .int .i64 n.b, .int .i64 n.c, .int .i64 n.p, .int .i64 n.q, .int .i64 n.w, .int .u64 n.lo, .int .u64 n.hi, .string n.nm]
def Nd.val (n : Nd) : Value := .agg #[.int .i64 n.op, .int .i64 n.s, .int .i64 n.a, .int .i64 n.b, .int .i64 n.c, .int .i64 n.p, .int .i64 n.q, .int .i64 n.w, .int .u64 n.lo, .int .u64 n.hi, .string n.nm]
theorem Nd.val_inj {n m : Nd} (h : n.val = m.val) : n = m := by
 cases n; cases m
 simp only [Nd.val, Value.agg.injEq, Array.mk.injEq, List.cons.injEq, Value.int.injEq, Value.string.injEq, true_and, and_true] at h
 obtain ⟨h1, h2, h3, h4, h5, h6, h7, h8, h9, h10, h11⟩ := h
 simp [*]
theorem Nd.cs_len (n : Nd) : n.cs.length = 11 := rfl
theorem css_at {ns : List Nd} {i : Nat} {n : Nd} (h : ns[i]? = some n) (j : Nat) (hj : j < 11) : (ns.flatMap Nd.cs)[i * 11 + j]? = n.cs[j]? := by
 induction ns generalizing i with
 | nil => simp at h
 | cons m l ih =>
  rw [List.flatMap_cons]
  cases i with
  | zero =>
   obtain rfl : m = n := by simpa using h
   rw [List.getElem?_append_left (by rw [Nd.cs_len]; omega), Nat.zero_mul, Nat.zero_add]
  | succ i =>
   rw [List.getElem?_append_right (by rw [Nd.cs_len]; omega), Nd.cs_len, show (i + 1) * 11 + j - 11 = i * 11 + j by omega]
   exact ih (by simpa using h)
def hasB (N : Nat) (i : Int) : Bool := decide (1 ≤ i) && decide (i ≤ (N : Int))
def opB (N : Nat) (k j : Int) (i : Int) : Bool := if j < k then hasB N i else decide (i = 0)
def prt (N : Nat) (n : Nd) : Bool := decide (0 ≤ ari n.op) && opB N (ari n.op) 0 n.a && opB N (ari n.op) 1 n.b && opB N (ari n.op) 2 n.c && (decide (n.op = 1) || (decide (n.w = 0) && decide (n.lo = 0) && decide (n.hi = 0))) && (decide (n.op = 2) || n.nm.size == 0)
def sAt (ns : List Nd) (i : Int) : Int := ((ns[(i - 1).toNat]?).map Nd.s).getD 0
def oss (ns : List Nd) (n : Nd) : List Int := ([n.a, n.b, n.c].take (ari n.op).toNat).map (sAt ns)
def clash (ns : List Nd) (n : Nd) : Bool := ns.any fun m => decide (m.op = 2) && decide (m.nm = n.nm) && !decide (m.s = n.s)
def srtOf (ns : List Nd) (n : Nd) : Int × Int :=
 if prt ns.length n = false then (0, 32)
 else if n.op = 1 then (if rgt n.w n.lo n.hi && decide (n.w = n.s) && decide (n.p = 0) && decide (n.q = 0) then (n.s, 0) else (0, 30))
 else if n.op = 2 then (if srt n.s && decide (n.p = 0) && decide (n.q = 0) then (if n.nm.size == 0 || clash ns n then (0, 34) else (n.s, 0)) else (0, 30))
 else srtF n.op n.p n.q (oss ns n)
def Nd.wi (n : Nd) (s : Int) : Nd := { n with s := s }
def idL (ns : List Nd) : List (Value × Value) := ns.mapIdx fun i n => (n.val, .int .i64 ((i : Int) + 1))
def varL (ns : List Nd) : List (Value × Value) := (ns.mapIdx fun i n => (n, i)).filterMap fun x => if x.1.op = 2 then some (.string x.1.nm, .int .i64 ((x.2 : Int) + 1)) else none
theorem idL_snoc (ns : List Nd) (n : Nd) : idL (ns ++ [n]) = idL ns ++ [(n.val, .int .i64 ((ns.length : Int) + 1))] := by simp [idL, List.mapIdx_append]
theorem varL_snoc (ns : List Nd) (n : Nd) : varL (ns ++ [n]) = varL ns ++ (if n.op = 2 then [(.string n.nm, .int .i64 ((ns.length : Int) + 1))] else []) := by
 unfold varL
 rw [List.mapIdx_append, List.filterMap_append]
 congr 1
 by_cases h : n.op = 2 <;> simp [h]
theorem mem_idL {ns : List Nd} {x : Value × Value} (h : x ∈ idL ns) : ∃ (i : Nat) (n : Nd), ns[i]? = some n ∧ x = (n.val, .int .i64 ((i : Int) + 1)) := by
 unfold idL at h
 obtain ⟨i, hi, e⟩ := List.mem_mapIdx.1 h
 exact ⟨i, ns[i], List.getElem?_eq_getElem hi, e.symm⟩
theorem in_idL {ns : List Nd} {i : Nat} {n : Nd} (h : ns[i]? = some n) : (n.val, Value.int .i64 ((i : Int) + 1)) ∈ idL ns := by
 obtain ⟨hi, e⟩ := List.getElem?_eq_some_iff.1 h
 unfold idL
 exact List.mem_mapIdx.2 ⟨i, hi, by rw [e]⟩
theorem mem_varL {ns : List Nd} {x : Value × Value} (h : x ∈ varL ns) : ∃ (i : Nat) (n : Nd), ns[i]? = some n ∧ n.op = 2 ∧ x = (.string n.nm, .int .i64 ((i : Int) + 1)) := by
 unfold varL at h
 obtain ⟨y, hy, e⟩ := List.mem_filterMap.1 h
 obtain ⟨i, hi, rfl⟩ := List.mem_mapIdx.1 hy
 by_cases h2 : ns[i].op = 2
 ·rw [if_pos h2] at e
  exact ⟨i, ns[i], List.getElem?_eq_getElem hi, h2, (Option.some.inj e).symm⟩
 ·rw [if_neg h2] at e
  cases e
theorem in_varL {ns : List Nd} {i : Nat} {n : Nd} (h : ns[i]? = some n) (h2 : n.op = 2) : (Value.string n.nm, Value.int .i64 ((i : Int) + 1)) ∈ varL ns := by
 obtain ⟨hi, e⟩ := List.getElem?_eq_some_iff.1 h
 unfold varL
 exact List.mem_filterMap.2 ⟨(n, i), List.mem_mapIdx.2 ⟨i, hi, by rw [e]⟩, by simp [h2]⟩
structure Inv (ns : List Nd) : Prop where
 sorts : ∀ n ∈ ns, 0 ≤ n.s ∧ n.s ≤ 128
 once : ns.Nodup
 names : ∀ n ∈ ns, ∀ m ∈ ns, n.op = 2 → m.op = 2 → n.nm = m.nm → n = m
 canon : ∀ n ∈ ns, n.op = 2 → n.a = 0 ∧ n.b = 0 ∧ n.c = 0 ∧ n.p = 0 ∧ n.q = 0 ∧ n.w = 0 ∧ n.lo = 0 ∧ n.hi = 0
 kids : ∀ (i : Nat) (n : Nd), ns[i]? = some n → 0 ≤ n.a ∧ n.a ≤ i ∧ 0 ≤ n.b ∧ n.b ≤ i ∧ 0 ≤ n.c ∧ n.c ≤ i
theorem Inv.nil : Inv [] := ⟨(fun _ h => nomatch h), List.nodup_nil, (fun _ h => nomatch h), (fun _ h => nomatch h), (fun i n h => by simp at h)⟩
structure Gr (w : World) (B g mi mv : Nat) (v : Value) (mo : Nat) (ns : List Nd) : Prop where
 hd : w.heap[g]? = some (.cells #[.int .i64 (mo : Int), v, .map (some mi), .map (some mv)] 58)
 row : w.ownsRow B 43 11 v ns.length (ns.flatMap Nd.cs)
 ids : Mp w 43 mi (idL ns)
 vars : Mp w 9 mv (varL ns)
 bg : B ≤ g
 bi : B ≤ mi
 bv : B ≤ mv
 ne : mi ≠ mv
 most : mo ≤ 4096
 room : ns.length ≤ mo
 inv : Inv ns
end Go.Proofs.Ytedldoobmmhloaa
