import Derived.Test.YtejljdbkocnhlaaGreatH
import Derived.Test.YtejljdbkocnhlaaGreatMg2
namespace Go.Proofs.YtejljdbkocnhlaaGreat
set_option maxHeartbeats 12800000
set_option maxRecDepth 100000
open Go.RowKit
set_option linter.unusedSimpArgs false
set_option linter.unusedVariables false
theorem right_out0 {A : Int} {N : Nat} (h : A < 0 ∨ 128 < A) (w : World) :
  Rt 60 #[.agg #[.int .i64 A, .int .u64 (LO (N)), .int .u64 (HI (N))]] w (.bool false) := by
 by_cases h0 : A < 0
 ·go_enter Tryz.func60, Tryz.ntmps60
  go_wp2_with fail
  go_ret
  exact ⟨rfl, by go_grown⟩
 ·have h1 : 128 < A := by omega
  go_enter Tryz.func60, Tryz.ntmps60
  go_wp2_with fail
  go_ret
  exact ⟨rfl, by go_grown⟩
theorem right_big0 {W N : Nat} (h1 : 1 ≤ W) (h2 : W ≤ 128) (hN : N < 2 ^ 128) (hb : ¬ N < 2 ^ W) (w : World) :
  Rt 60 #[.agg #[.int .i64 W, .int .u64 (LO (N)), .int .u64 (HI (N))]] w (.bool false) := by
 have hd : decide ((W : Int) < 0) = false := by simp only [decide_eq_false_iff_not]; omega
 have hd2 : decide ((128 : Int) < W) = false := by simp only [decide_eq_false_iff_not]; omega
 have hd3 : ((W : Int) == 0) = false := by simp; omega
 obtain ⟨r, hr⟩ : ∃ r, N % 2 ^ W = r := ⟨_, rfl⟩
 have hq : eqB N r = false := eqB_no (fun e => hb (by rw [e, ← hr]; exact mod_lt_W _ _))
 have HR : Hid _ := hr
 clear hr hb
 have hqe := eq_w
 go_enter Tryz.func60, Tryz.ntmps60
 go_wp2_with fail
 go_region_held3 (fun x => x.cell? ⟨w.heap.size, 0, none⟩ = some (.int .i64 W) ∧ x.cell? ⟨w.heap.size, 1, none⟩ = some (.int .u64 (LO (N))) ∧ x.cell? ⟨w.heap.size, 2, none⟩ = some (.int .u64 (HI (N))) ∧ Below w.heap.size w x)
  ((refine ⟨?_, ?_, ?_, ?_⟩ <;> first | (simp [go_sem]; done) | (refine cv_some ?_; simp [go_sem]; done) | (simp [go_sem, KFr, KFrz0]; done) | (refine cv_some ?_; simp [go_sem, KFr, KFrz0]; done) | (refine put_below ?_ ?_ <;> first | assumption | omega) | (have hH := ‹_ ∧ _ ∧ _ ∧ _›; exact put_below hH.2.2.2 (by omega)) | go_grown))
  ((first | (go_at_call 103; refine (cut_any (m := N) (r := r) h1 h2 hN HR.out rfl rfl rfl _).mono ?_; rintro e wq ⟨rfl, hb⟩; have hb' := below_step (w := w) (by go_grown) hb; have hs := hb'.size; have KFr : wq.cell? ⟨w.heap.size, 0, none⟩ = some (.int .i64 W) ∧ wq.cell? ⟨w.heap.size, 1, none⟩ = some (.int .u64 (LO (N))) ∧ wq.cell? ⟨w.heap.size, 2, none⟩ = some (.int .u64 (HI (N))) := (by refine ⟨keep_cell hb ?_, keep_cell hb ?_, keep_cell hb ?_⟩ <;> (first | (simp [go_sem]; done) | (simp [go_sem, KFr]; done) | (simp [go_sem, KFr, World.cell?_alloc_some, frozen?_alloc_cells]; done))); have KFrz0 : w.heap.size < wq.heap.size := World.block_lt_of_cell? _ _ KFr.1; clear hb)))
 obtain ⟨-, -, -, hBq⟩ := ‹_ ∧ _ ∧ _ ∧ _›
 go_wp2_with fail
 go_ret
 exact ⟨rfl, by go_grown⟩
theorem eq_b0 (lo hi x : Int) (w : World) : (binOp .eql 34 (.agg #[.int .i64 0, .int .u64 lo, .int .u64 hi]) (.agg #[.int .i64 0, .int .u64 x, .int .u64 0])).run Tryz.prog w = .ok (.bool (decide (lo = x) && decide (hi = 0))) w := by
 by_cases h1 : lo = x
 ·by_cases h2 : hi = 0 <;> simp [go_sem, h1, h2]
 ·simp [go_sem, h1]
theorem right_zero (lo hi : Int) (w : World) :
  Rt 60 #[.agg #[.int .i64 0, .int .u64 lo, .int .u64 hi]] w (.bool ((decide (lo = 0) && decide (hi = 0)) || (decide (lo = 1) && decide (hi = 0)))) := by
 have hqe := eq_b0
 cases hz : (decide (lo = 0) && decide (hi = 0))
 ·go_enter Tryz.func60, Tryz.ntmps60
  go_wp2_with fail
  go_region_held3 (fun x => x.cell? ⟨w.heap.size, 0, none⟩ = some (.int .i64 0) ∧ x.cell? ⟨w.heap.size, 1, none⟩ = some (.int .u64 lo) ∧ x.cell? ⟨w.heap.size, 2, none⟩ = some (.int .u64 hi) ∧ (∀ o, x.frozen? ⟨w.heap.size, o, none⟩ = false) ∧ Below w.heap.size w x)
   ((refine ⟨?_, ?_, ?_, ?_, ?_⟩ <;> first | (simp [go_sem]; done) | (refine cv_some ?_; simp [go_sem]; done) | (simp [go_sem, KFr, KFrz0]; done) | (refine cv_some ?_; simp [go_sem, KFr, KFrz0]; done) | (refine put_below ?_ ?_ <;> first | assumption | omega) | (have hH := ‹_ ∧ _ ∧ _ ∧ _ ∧ _›; exact put_below hH.2.2.2.2 (by omega)) | go_grown))
   ((first | (go_at_call_of 102 (Value.bool false); refine (bool_any false _).mono ?_; rintro e wq ⟨rfl, hb⟩; have hb' := below_step (w := w) (by go_grown) hb; have hs := hb'.size; have KFr : T3 wq w.heap.size (.int .i64 0) (.int .u64 lo) (.int .u64 hi) <| (∀ o, wq.frozen? ⟨w.heap.size, o, none⟩ = false) := (by refine k3 hb ?_ ?_ ?_ <| keep_frozen2 hb ?_ ?_ <;> (first | (simp [go_sem]; done) | (simp [go_sem, KFr]; done) | (simp [go_sem, KFr, World.cell?_alloc_some, frozen?_alloc_cells]; done))); have KFrz0 : w.heap.size < wq.heap.size := World.block_lt_of_cell? _ _ KFr.1; clear hb) | (go_at_call_of 102 (Value.bool true); refine (bool_any true _).mono ?_; rintro e wq ⟨rfl, hb⟩; have hb' := below_step (w := w) (by go_grown) hb; have hs := hb'.size; have KFr : T3 wq w.heap.size (.int .i64 0) (.int .u64 lo) (.int .u64 hi) <| (∀ o, wq.frozen? ⟨w.heap.size, o, none⟩ = false) := (by refine k3 hb ?_ ?_ ?_ <| keep_frozen2 hb ?_ ?_ <;> (first | (simp [go_sem]; done) | (simp [go_sem, KFr]; done) | (simp [go_sem, KFr, World.cell?_alloc_some, frozen?_alloc_cells]; done))); have KFrz0 : w.heap.size < wq.heap.size := World.block_lt_of_cell? _ _ KFr.1; clear hb)))
  obtain ⟨-, -, -, -, hBq⟩ := ‹_ ∧ _ ∧ _ ∧ _ ∧ _›
  go_wp2_with fail
  go_ret
  exact ⟨rfl, by go_grown⟩
 ·go_enter Tryz.func60, Tryz.ntmps60
  go_wp2_with fail
  go_region_with ((first | (go_at_call_of 102 (Value.bool false); refine (bool_any false _).mono ?_; rintro e wq ⟨rfl, hb⟩; have hb' := below_step (w := w) (by go_grown) hb; have hs := hb'.size; have KFr : T3 wq w.heap.size (.int .i64 0) (.int .u64 lo) (.int .u64 hi) <| (∀ o, wq.frozen? ⟨w.heap.size, o, none⟩ = false) := (by refine k3 hb ?_ ?_ ?_ <| keep_frozen2 hb ?_ ?_ <;> (first | (simp [go_sem]; done) | (simp [go_sem, KFr]; done) | (simp [go_sem, KFr, World.cell?_alloc_some, frozen?_alloc_cells]; done))); have KFrz0 : w.heap.size < wq.heap.size := World.block_lt_of_cell? _ _ KFr.1; clear hb) | (go_at_call_of 102 (Value.bool true); refine (bool_any true _).mono ?_; rintro e wq ⟨rfl, hb⟩; have hb' := below_step (w := w) (by go_grown) hb; have hs := hb'.size; have KFr : T3 wq w.heap.size (.int .i64 0) (.int .u64 lo) (.int .u64 hi) <| (∀ o, wq.frozen? ⟨w.heap.size, o, none⟩ = false) := (by refine k3 hb ?_ ?_ ?_ <| keep_frozen2 hb ?_ ?_ <;> (first | (simp [go_sem]; done) | (simp [go_sem, KFr]; done) | (simp [go_sem, KFr, World.cell?_alloc_some, frozen?_alloc_cells]; done))); have KFrz0 : w.heap.size < wq.heap.size := World.block_lt_of_cell? _ _ KFr.1; clear hb)))
  all_goals
   go_wp2_with fail
   go_ret
   exact ⟨rfl, by go_grown⟩
def rgt (w lo hi : Int) : Bool := decide (0 ≤ w) && decide (w ≤ 128) && (if w = 0 then (decide (lo = 0) && decide (hi = 0)) || (decide (lo = 1) && decide (hi = 0)) else decide (lo + 18446744073709551616 * hi < 2 ^ w.toNat))
theorem right_all {A lo hi : Int} (l0 : 0 ≤ lo) (l1 : lo < 18446744073709551616) (h0 : 0 ≤ hi) (h1 : hi < 18446744073709551616) (w : World) :
  Rt 60 #[.agg #[.int .i64 A, .int .u64 lo, .int .u64 hi]] w (.bool (rgt A lo hi)) := by
 obtain ⟨N, hN⟩ : ∃ N : Nat, N = (lo + 18446744073709551616 * hi).toNat := ⟨_, rfl⟩
 have hN2 : N < 2 ^ 128 := by omega
 have el : lo = LO N := by unfold LO; omega
 have eh : hi = HI N := by unfold HI; omega
 by_cases ho : A < 0 ∨ 128 < A
 ·have e : rgt A lo hi = false := by unfold rgt; rcases ho with h | h <;> simp [show ¬ 0 ≤ A ∨ ¬ A ≤ 128 from by omega] <;> omega
  rw [e, el, eh]
  exact right_out0 ho w
 ·by_cases hz : A = 0
  ·subst hz
   have e : rgt 0 lo hi = ((decide (lo = 0) && decide (hi = 0)) || (decide (lo = 1) && decide (hi = 0))) := by simp [rgt]
   rw [e]
   exact right_zero lo hi w
  ·obtain ⟨W, rfl⟩ : ∃ W : Nat, A = W := ⟨A.toNat, by omega⟩
   have e : rgt (W : Int) lo hi = decide (N < 2 ^ W) := by
    unfold rgt
    rw [if_neg hz, show decide (0 ≤ (W : Int)) = true by simp, show decide ((W : Int) ≤ 128) = true by simp; omega, Int.toNat_natCast]
    simp only [Bool.true_and, decide_eq_decide]
    have e2 : ((2 : Int) ^ W) = ((2 ^ W : Nat) : Int) := by simp
    rw [e2]
    omega
   rw [e, el, eh]
   by_cases hlt : N < 2 ^ W
   ·rw [show decide (N < 2 ^ W) = true by simp [hlt]]
    exact right_any ⟨by omega, by omega, hlt, rfl, rfl, rfl⟩ w
   ·rw [show decide (N < 2 ^ W) = false by simp [hlt]]
    exact right_big0 (by omega) (by omega) hN2 hlt w
structure Nd where
 op : Int
 s : Int
 a : Int
 b : Int
 c : Int
 p : Int
 q : Int
 w : Int
 lo : Int
 hi : Int
 nm : ByteArray
def Nd.cs (n : Nd) : List Value := [.int .i64 n.op, .int .i64 n.s, .int .i64 n.a, .int .i64 n.b, .int .i64 n.c, .int .i64 n.p, .int .i64 n.q, .int .i64 n.w, .int .u64 n.lo, .int .u64 n.hi, .string n.nm]
def Nd.val (n : Nd) : Value := .agg #[.int .i64 n.op, .int .i64 n.s, .int .i64 n.a, .int .i64 n.b, .int .i64 n.c, .int .i64 n.p, .int .i64 n.q, .int .i64 n.w, .int .u64 n.lo, .int .u64 n.hi, .string n.nm]
theorem Nd.val_inj {n m : Nd} (h : n.val = m.val) : n = m := by
 cases n; cases m
 simp only [Nd.val, Value.agg.injEq, Array.mk.injEq, List.cons.injEq, Value.int.injEq, Value.string.injEq, true_and, and_true] at h
 obtain ⟨h1, h2, h3, h4, h5, h6, h7, h8, h9, h10, h11⟩ := h
 simp [*]
theorem Nd.cs_len (n : Nd) : n.cs.length = 11 := rfl
theorem css_at {ns : List Nd} {i : Nat} {n : Nd} (h : ns[i]? = some n) (j : Nat) (hj : j < 11) : (ns.flatMap Nd.cs)[i * 11 + j]? = n.cs[j]? := by
 induction ns generalizing i with
 | nil => simp at h
 | cons m l ih =>
  rw [List.flatMap_cons]
  cases i with
  | zero =>
   obtain rfl : m = n := by simpa using h
   rw [List.getElem?_append_left (by rw [Nd.cs_len]; omega), Nat.zero_mul, Nat.zero_add]
  | succ i =>
   rw [List.getElem?_append_right (by rw [Nd.cs_len]; omega), Nd.cs_len, show (i + 1) * 11 + j - 11 = i * 11 + j by omega]
   exact ih (by simpa using h)
def hasB (N : Nat) (i : Int) : Bool := decide (1 ≤ i) && decide (i ≤ (N : Int))
def opB (N : Nat) (k j : Int) (i : Int) : Bool := if j < k then hasB N i else decide (i = 0)
def prt (N : Nat) (n : Nd) : Bool := decide (0 ≤ ari n.op) && opB N (ari n.op) 0 n.a && opB N (ari n.op) 1 n.b && opB N (ari n.op) 2 n.c && (decide (n.op = 1) || (decide (n.w = 0) && decide (n.lo = 0) && decide (n.hi = 0))) && (decide (n.op = 2) || n.nm.size == 0)
def sAt (ns : List Nd) (i : Int) : Int := ((ns[(i - 1).toNat]?).map Nd.s).getD 0
def oss (ns : List Nd) (n : Nd) : List Int := ([n.a, n.b, n.c].take (ari n.op).toNat).map (sAt ns)
def clash (ns : List Nd) (n : Nd) : Bool := ns.any fun m => decide (m.op = 2) && decide (m.nm = n.nm) && !decide (m.s = n.s)
def srtOf (ns : List Nd) (n : Nd) : Int × Int :=
 if prt ns.length n = false then (0, 32)
 else if n.op = 1 then (if rgt n.w n.lo n.hi && decide (n.w = n.s) && decide (n.p = 0) && decide (n.q = 0) then (n.s, 0) else (0, 30))
 else if n.op = 2 then (if srt n.s && decide (n.p = 0) && decide (n.q = 0) then (if n.nm.size == 0 || clash ns n then (0, 34) else (n.s, 0)) else (0, 30))
 else srtF n.op n.p n.q (oss ns n)
def Nd.wi (n : Nd) (s : Int) : Nd := { n with s := s }
def idL (ns : List Nd) : List (Value × Value) := ns.mapIdx fun i n => (n.val, .int .i64 ((i : Int) + 1))
def varL (ns : List Nd) : List (Value × Value) := (ns.mapIdx fun i n => (n, i)).filterMap fun x => if x.1.op = 2 then some (.string x.1.nm, .int .i64 ((x.2 : Int) + 1)) else none
theorem idL_snoc (ns : List Nd) (n : Nd) : idL (ns ++ [n]) = idL ns ++ [(n.val, .int .i64 ((ns.length : Int) + 1))] := by simp [idL, List.mapIdx_append]
theorem varL_snoc (ns : List Nd) (n : Nd) : varL (ns ++ [n]) = varL ns ++ (if n.op = 2 then [(.string n.nm, .int .i64 ((ns.length : Int) + 1))] else []) := by
 unfold varL
 rw [List.mapIdx_append, List.filterMap_append]
 congr 1
 by_cases h : n.op = 2 <;> simp [h]
theorem mem_idL {ns : List Nd} {x : Value × Value} (h : x ∈ idL ns) : ∃ (i : Nat) (n : Nd), ns[i]? = some n ∧ x = (n.val, .int .i64 ((i : Int) + 1)) := by
 unfold idL at h
 obtain ⟨i, hi, e⟩ := List.mem_mapIdx.1 h
 exact ⟨i, ns[i], List.getElem?_eq_getElem hi, e.symm⟩
theorem in_idL {ns : List Nd} {i : Nat} {n : Nd} (h : ns[i]? = some n) : (n.val, Value.int .i64 ((i : Int) + 1)) ∈ idL ns := by
 obtain ⟨hi, e⟩ := List.getElem?_eq_some_iff.1 h
 unfold idL
 exact List.mem_mapIdx.2 ⟨i, hi, by rw [e]⟩
theorem mem_varL {ns : List Nd} {x : Value × Value} (h : x ∈ varL ns) : ∃ (i : Nat) (n : Nd), ns[i]? = some n ∧ n.op = 2 ∧ x = (.string n.nm, .int .i64 ((i : Int) + 1)) := by
 unfold varL at h
 obtain ⟨y, hy, e⟩ := List.mem_filterMap.1 h
 obtain ⟨i, hi, rfl⟩ := List.mem_mapIdx.1 hy
 by_cases h2 : ns[i].op = 2
 ·rw [if_pos h2] at e
  exact ⟨i, ns[i], List.getElem?_eq_getElem hi, h2, (Option.some.inj e).symm⟩
 ·rw [if_neg h2] at e
  cases e
theorem in_varL {ns : List Nd} {i : Nat} {n : Nd} (h : ns[i]? = some n) (h2 : n.op = 2) : (Value.string n.nm, Value.int .i64 ((i : Int) + 1)) ∈ varL ns := by
 obtain ⟨hi, e⟩ := List.getElem?_eq_some_iff.1 h
 unfold varL
 exact List.mem_filterMap.2 ⟨(n, i), List.mem_mapIdx.2 ⟨i, hi, by rw [e]⟩, by simp [h2]⟩
structure Inv (ns : List Nd) : Prop where
 sorts : ∀ n ∈ ns, 0 ≤ n.s ∧ n.s ≤ 128
 once : ns.Nodup
 names : ∀ n ∈ ns, ∀ m ∈ ns, n.op = 2 → m.op = 2 → n.nm = m.nm → n = m
 canon : ∀ n ∈ ns, n.op = 2 → n.a = 0 ∧ n.b = 0 ∧ n.c = 0 ∧ n.p = 0 ∧ n.q = 0 ∧ n.w = 0 ∧ n.lo = 0 ∧ n.hi = 0
 kids : ∀ (i : Nat) (n : Nd), ns[i]? = some n → 0 ≤ n.a ∧ n.a ≤ i ∧ 0 ≤ n.b ∧ n.b ≤ i ∧ 0 ≤ n.c ∧ n.c ≤ i
theorem Inv.nil : Inv [] := ⟨(fun _ h => nomatch h), List.nodup_nil, (fun _ h => nomatch h), (fun _ h => nomatch h), (fun i n h => by simp at h)⟩
structure Gr (w : World) (B g mi mv : Nat) (v : Value) (mo : Nat) (ns : List Nd) : Prop where
 hd : w.heap[g]? = some (.cells #[.int .i64 (mo : Int), v, .map (some mi), .map (some mv)] 91)
 row : w.ownsRow B 53 11 v ns.length (ns.flatMap Nd.cs)
 ids : Mp w 53 mi (idL ns)
 vars : Mp w 9 mv (varL ns)
 bg : B ≤ g
 bi : B ≤ mi
 bv : B ≤ mv
 ne : mi ≠ mv
 most : mo ≤ 4096
 room : ns.length ≤ mo
 inv : Inv ns
theorem cell_of {w : World} {g : Nat} {cs : Array Value} {t : TypeId} {f : Nat × Nat} (h : w.heap[g]? = some (.cells cs t f)) (j : Nat) {v : Value} (hv : cs[j]? = some v) : w.cell? ⟨g, j, none⟩ = some v := by
 simp [World.cell?, h, hv]
theorem Gr.c0 {w : World} {B g mi mv mo : Nat} {v : Value} {ns : List Nd} (h : Gr w B g mi mv v mo ns) : w.cell? ⟨g, 0, none⟩ = some (.int .i64 (mo : Int)) := cell_of h.hd 0 rfl
theorem Gr.c1 {w : World} {B g mi mv mo : Nat} {v : Value} {ns : List Nd} (h : Gr w B g mi mv v mo ns) : w.cell? ⟨g, 1, none⟩ = some v := cell_of h.hd 1 rfl
theorem Gr.c2 {w : World} {B g mi mv mo : Nat} {v : Value} {ns : List Nd} (h : Gr w B g mi mv v mo ns) : w.cell? ⟨g, 2, none⟩ = some (.map (some mi)) := cell_of h.hd 2 rfl
theorem Gr.c3 {w : World} {B g mi mv mo : Nat} {v : Value} {ns : List Nd} (h : Gr w B g mi mv v mo ns) : w.cell? ⟨g, 3, none⟩ = some (.map (some mv)) := cell_of h.hd 3 rfl
theorem Gr.sl {w : World} {B g mi mv mo : Nat} {v : Value} {ns : List Nd} (h : Gr w B g mi mv v mo ns) : ∃ ad cap, v = .slice ad ns.length cap := by
 rcases h.row.2 with ⟨hv, hn⟩ | ⟨r, cap, cur, hv, _⟩
 ·exact ⟨none, 0, by rw [hv, hn]⟩
 ·exact ⟨_, cap, hv⟩
theorem Gr.len {w : World} {B g mi mv mo : Nat} {v : Value} {ns : List Nd} (h : Gr w B g mi mv v mo ns) : ns.length ≤ 4096 := Nat.le_trans h.room h.most
theorem row_at {w : World} {B mo : Nat} {v : Value} {ns : List Nd} {i : Nat} {n : Nd} (h : w.ownsRow B 53 11 v ns.length (ns.flatMap Nd.cs)) (hi : ns[i]? = some n) :
  ∃ r cap, v = .slice (some ⟨r, 0, none⟩) ns.length cap ∧ B ≤ r ∧ (∃ cur, w.heap[r]? = some (.cells cur 53)) ∧ ∀ j u, n.cs[j]? = some u → w.cell? ⟨r, i * 11 + j, none⟩ = some u := by
 have hlt : i < ns.length := (List.getElem?_eq_some_iff.1 hi).1
 rcases h.2 with ⟨hv, hn⟩ | ⟨r, cap, cur, hv, hb, hg, _, _, hs, ht⟩
 ·omega
 ·refine ⟨r, cap, hv, hb, ⟨cur, hg⟩, fun j u hj => ?_⟩
  have hj11 : j < 11 := (List.getElem?_eq_some_iff.1 hj).1
  have e : (ns.flatMap Nd.cs)[i * 11 + j]? = some u := by rw [css_at hi j hj11]; exact hj
  rw [← ht, List.getElem?_take_of_lt (by omega)] at e
  exact cell_of hg _ (by simpa using e)
theorem has_any {w : World} {B g mi mv mo : Nat} {v : Value} {ns : List Nd} (h : Gr w B g mi mv v mo ns) (i : Int) :
  Calls Tryz.prog 41 #[.pointer (some ⟨g, 0, none⟩), .int .i64 i] w fun e w' => e = .returned (.bool (hasB ns.length i)) ∧ w' = w := by
 have c1 := h.c1
 obtain ⟨ad, cap, rfl⟩ := h.sl
 obtain ⟨N, hN⟩ : ∃ N, N = ns.length := ⟨_, rfl⟩
 rw [← hN] at c1 ⊢
 clear h hN
 by_cases h1 : 1 ≤ i
 ·obtain ⟨r, hr⟩ : ∃ r, r = hasB N i := ⟨_, rfl⟩
  rw [← hr]
  have HR : Hid _ := hr
  clear hr
  go_enter Tryz.func41, Tryz.ntmps41
  go_wp2_with fail
  go_ret
  exact ⟨by rw [HR.out]; simp [hasB, h1], rfl⟩
 ·have e : hasB N i = false := by simp [hasB, h1]
  rw [e]
  go_enter Tryz.func41, Tryz.ntmps41
  go_wp2_with fail
  go_ret
  exact ⟨rfl, rfl⟩
theorem glen_any {w : World} {B g mi mv mo : Nat} {v : Value} {ns : List Nd} (h : Gr w B g mi mv v mo ns) :
  Calls Tryz.prog 17 #[.pointer (some ⟨g, 0, none⟩)] w fun e w' => e = .returned (.int .i64 (ns.length : Int)) ∧ w' = w := by
 have c1 := h.c1
 obtain ⟨ad, cap, rfl⟩ := h.sl
 clear h
 go_enter Tryz.func17, Tryz.ntmps17
 go_wp2_with fail
 go_ret
 exact ⟨rfl, rfl⟩
theorem row_kept {w w' : World} {B : Nat} {e : TypeId} {sz : Nat} {v : Value} {n : Nat} {xs : List Value} (h : w.ownsRow B e sz v n xs) (hk : ∀ k, k < w.heap.size → w'.heap[k]? = w.heap[k]?) : w'.ownsRow B e sz v n xs := by
 refine ⟨h.1, ?_⟩
 rcases h.2 with hn | ⟨g, cap, cur, rfl, hb, hgg, rest⟩
 ·exact .inl hn
 ·exact .inr ⟨g, cap, cur, rfl, hb, by rw [hk g (Array.getElem?_eq_some_iff.1 hgg).1]; exact hgg, rest⟩
theorem Gr.lt {w : World} {B g mi mv mo : Nat} {v : Value} {ns : List Nd} (h : Gr w B g mi mv v mo ns) : g < w.heap.size := (Array.getElem?_eq_some_iff.1 h.hd).1
theorem Gr.kept {w w' : World} {B g mi mv mo : Nat} {v : Value} {ns : List Nd} (h : Gr w B g mi mv v mo ns) (hk : ∀ k, k < w.heap.size → w'.heap[k]? = w.heap[k]?) : Gr w' B g mi mv v mo ns :=
 ⟨(hk g h.lt).trans h.hd, row_kept h.row hk, h.ids.kept (hk mi h.ids.lt), h.vars.kept (hk mv h.vars.lt), h.bg, h.bi, h.bv, h.ne, h.most, h.room, h.inv⟩
theorem Gr.below {w w' : World} {B g mi mv mo : Nat} {v : Value} {ns : List Nd} (h : Gr w B g mi mv v mo ns) (hb : Below w.heap.size w w') : Gr w' B g mi mv v mo ns := h.kept hb.block
theorem Gr.alloc {w : World} {B g mi mv mo : Nat} {v : Value} {ns : List Nd} (h : Gr w B g mi mv v mo ns) (o : Obj) : Gr (w.alloc o) B g mi mv v mo ns := h.kept fun k hk => heap_alloc_old w _ hk
theorem node_yes {w : World} {B g mi mv mo : Nat} {v : Value} {ns : List Nd} (h : Gr w B g mi mv v mo ns) {i : Nat} {n : Nd} (hi : ns[i]? = some n) :
  Rt 19 #[.pointer (some ⟨g, 0, none⟩), .int .i64 ((i : Int) + 1)] w (.tuple #[.agg #[.int .i64 n.op, .int .i64 n.s, .int .i64 n.a, .int .i64 n.b, .int .i64 n.c, .int .i64 n.p, .int .i64 n.q, .int .i64 n.w, .int .u64 n.lo, .int .u64 n.hi, .string n.nm], .bool true]) := by
 have hlt : i < ns.length := (List.getElem?_eq_some_iff.1 hi).1
 have hlen := h.len
 have H : Hid (∀ wx, Gr wx B g mi mv v mo ns → Calls Tryz.prog 41 #[.pointer (some ⟨g, 0, none⟩), .int .i64 ((i : Int) + 1)] wx fun e w' => e = .returned (.bool true) ∧ w' = wx) := fun wx hx => by
  have e : hasB ns.length ((i : Int) + 1) = true := by simp [hasB]; omega
  rw [← e]; exact has_any hx _
 have HG : Hid _ := h
 have c1 := h.c1
 have hg := h.lt
 obtain ⟨r, cap, rfl, hBr, ⟨cur, hr⟩, hc⟩ := row_at (mo := mo) h.row hi
 have hrl : r < w.heap.size := (Array.getElem?_eq_some_iff.1 hr).1
 have d0 : w.cell? ⟨r, i * 11, none⟩ = some (.int .i64 n.op) := hc 0 _ rfl
 have d1 := hc 1 _ rfl
 have d2 := hc 2 _ rfl
 have d3 := hc 3 _ rfl
 have d4 := hc 4 _ rfl
 have d5 := hc 5 _ rfl
 have d6 := hc 6 _ rfl
 have d7 := hc 7 _ rfl
 have d8 := hc 8 _ rfl
 have d9 := hc 9 _ rfl
 have d10 := hc 10 _ rfl
 clear hc hr hi
 have e1 : wrap64 (i : Int) = i := by unfold wrap64; omega
 have b1 : (i : Int) < (ns.length : Int) := by omega
 obtain ⟨N, hN⟩ : ∃ N, N = ns.length := ⟨_, rfl⟩
 rw [← hN] at c1 b1 hlt
 clear hN h hlen
 go_enter Tryz.func19, Tryz.ntmps19
 go_wp2_with fail
 refine (H.out _ (HG.out.alloc _)).mono ?_
 rintro e wz ⟨rfl, rfl⟩
 go_wp2_with fail
 refine bodyPost_ret (v := .tuple #[.agg #[.int .i64 n.op, .int .i64 n.s, .int .i64 n.a, .int .i64 n.b, .int .i64 n.c, .int .i64 n.p, .int .i64 n.q, .int .i64 n.w, .int .u64 n.lo, .int .u64 n.hi, .string n.nm], .bool true]) (by simp [results, Tryz.results19, go_sem]) rfl ?_
 exact ⟨rfl, by go_grown⟩
theorem nodeLaw : WideMaps.KeyLaw Tryz.prog 53 := deep_law (m := 20) (by decide) (by kernel_rfl) (by kernel_rfl) (by kernel_rfl)
theorem strUnder : Tryz.prog.underlying 9 = some .string := by kernel_rfl
theorem strLaw : WideMaps.KeyLaw Tryz.prog 9 := WideMaps.string_law strUnder
theorem idsUnder : Tryz.prog.underlying 88 = some (.map 53 3) := by kernel_rfl
theorem varsUnder : Tryz.prog.underlying 89 = some (.map 9 3) := by kernel_rfl
theorem zeroInt (w : World) : (zeroValue 3).run Tryz.prog w = .ok (.int .i64 0) w := by kernel_rfl
theorem strKey {s : ByteArray} (hs : s.size ≤ maxLen) : keyOf Tryz.prog 9 (.string s) = some (.string s.data.toList) := WideMaps.keyOf_string_mk strUnder hs
def varAt (ns : List Nd) (s : ByteArray) : Int := match ns.findIdx? (fun m => decide (m.op = 2) && decide (m.nm = s)) with | some i => (i : Int) + 1 | none => 0
theorem varAt_none {ns : List Nd} {s : ByteArray} (h : ∀ m ∈ ns, m.op = 2 → m.nm ≠ s) : varAt ns s = 0 := by
 unfold varAt
 rw [List.findIdx?_eq_none_iff.2 (fun m hm => by
  have := h m hm
  by_cases h2 : m.op = 2 <;> simp [h2, this])]
theorem varAt_some {ns : List Nd} (hv : Inv ns) {s : ByteArray} {i : Nat} {n : Nd} (h : ns[i]? = some n) (h2 : n.op = 2) (hn : n.nm = s) : varAt ns s = (i : Int) + 1 := by
 obtain ⟨hi, e⟩ := List.getElem?_eq_some_iff.1 h
 have hf : ns.findIdx? (fun m => decide (m.op = 2) && decide (m.nm = s)) = some i := by
  rw [List.findIdx?_eq_some_iff_getElem]
  refine ⟨hi, by simp [e, h2, hn], fun j hj => ?_⟩
  intro hq
  obtain ⟨h2', hjn⟩ : ns[j].op = 2 ∧ ns[j].nm = s := by simpa using hq
  have hjl : j < ns.length := by omega
  have := hv.names ns[j] (List.getElem_mem hjl) n (List.mem_of_getElem? h) h2' h2 (by rw [hjn, hn])
  rw [← e] at this
  exact List.pairwise_iff_getElem.1 hv.once j i hjl hi hj this
 unfold varAt
 rw [hf]
theorem var_any {w : World} {B g mi mv mo : Nat} {v : Value} {ns : List Nd} (h : Gr w B g mi mv v mo ns) {s : ByteArray} (hs : s.size ≤ maxLen) :
  Calls Tryz.prog 21 #[.pointer (some ⟨g, 0, none⟩), .string s] w fun e w' => e = .returned (.tuple #[.int .i64 (varAt ns s), .bool (!decide (varAt ns s = 0))]) ∧ w' = w := by
 have c3 := h.c3
 rcases h.vars.look strLaw varsUnder (zeroInt w) (strKey hs) with ⟨hr, hn⟩ | ⟨p, hp, he, hr⟩
 ·have e : varAt ns s = 0 := varAt_none fun m hm h2 e => by
   obtain ⟨i, hi, em⟩ := List.getElem_of_mem hm
   exact hn _ (in_varL (by rw [List.getElem?_eq_getElem hi, em]) h2) (by rw [e])
  rw [e]
  clear h hn e
  go_enter Tryz.func21, Tryz.ntmps21
  go_wp2_with fail
  refine bodyPost_ret (v := .tuple #[.int .i64 0, .bool false]) (by simp [results, Tryz.results21, go_sem]) rfl ?_
  exact ⟨rfl, rfl⟩
 ·obtain ⟨i, n, hi, h2, rfl⟩ := mem_varL hp
  have hnm : n.nm = s := by simpa using he
  have e : varAt ns s = (i : Int) + 1 := varAt_some h.inv hi h2 hnm
  rw [e, show (!decide ((i : Int) + 1 = 0)) = true by simp; omega]
  dsimp only at hr
  clear h hp he e hi h2 hnm
  go_enter Tryz.func21, Tryz.ntmps21
  go_wp2_with fail
  refine bodyPost_ret (v := .tuple #[.int .i64 ((i : Int) + 1), .bool true]) (by simp [results, Tryz.results21, go_sem]) rfl ?_
  exact ⟨rfl, rfl⟩
def roomOf (most : Int) : Nat := (min (max most 1) 4096).toNat
theorem gnew_any (most : Int) (w : World) :
  Calls Tryz.prog 23 #[.int .i64 most] w fun e w' => e = .returned (.pointer (some ⟨w.heap.size + 2, 0, none⟩)) ∧ Below w.heap.size w w' ∧ Gr w' w.heap.size (w.heap.size + 2) w.heap.size (w.heap.size + 1) (.slice none 0 0) (roomOf most) [] := by
 have key : ∀ x : Int, x = (roomOf most : Int) → Gr (((w.alloc (.map #[] 0)).alloc (.map #[] 0)).alloc (.cells #[.int .i64 x, .slice none 0 0, .map (some w.heap.size), .map (some (w.heap.size + 1))] 91)) w.heap.size (w.heap.size + 2) w.heap.size (w.heap.size + 1) (.slice none 0 0) (roomOf most) [] := by
  rintro x rfl
  have s1 : ∀ a : Obj, (w.alloc a).heap.size = w.heap.size + 1 := fun a => by simp
  have s2 : ∀ a b : Obj, ((w.alloc a).alloc b).heap.size = w.heap.size + 2 := fun a b => by simp
  refine ⟨?_, World.ownsRow_nil _ _ _ _, ⟨#[], 0, ?_, rfl, (fun p hp => nomatch hp)⟩, ⟨#[], 0, ?_, rfl, (fun p hp => nomatch hp)⟩, by omega, by omega, by omega, by omega, by unfold roomOf; omega, by simp, Inv.nil⟩
  ·rw [← s2 (.map #[] 0) (.map #[] 0)]; exact heap_alloc_new _ _
  ·exact (heap_alloc_old _ _ (by rw [s2]; omega)).trans ((heap_alloc_old _ _ (by rw [s1]; omega)).trans (heap_alloc_new w _))
  ·refine (heap_alloc_old _ _ (by rw [s2]; omega)).trans ?_
   rw [← s1 (.map #[] 0)]; exact heap_alloc_new _ _
 have HK : Hid _ := key
 clear key
 have hmm := @run_makeMap Tryz.prog
 by_cases h1 : most < 1
 ·have e : Hid ((1 : Int) = (roomOf most : Int)) := by unfold Hid roomOf; omega
  go_enter Tryz.func23, Tryz.ntmps23
  go_wp2_with fail
  go_ret
  exact ⟨rfl, by go_grown, HK.out _ e.out⟩
 ·by_cases h2 : most ≤ 4096
  ·have e : Hid (most = (roomOf most : Int)) := by unfold Hid roomOf; omega
   go_enter Tryz.func23, Tryz.ntmps23
   go_wp2_with fail
   go_ret
   exact ⟨rfl, by go_grown, HK.out _ e.out⟩
  ·have e : Hid ((4096 : Int) = (roomOf most : Int)) := by unfold Hid roomOf; omega
   go_enter Tryz.func23, Tryz.ntmps23
   go_wp2_with fail
   go_ret
   exact ⟨rfl, by go_grown, HK.out _ e.out⟩
theorem prt_ari {N : Nat} {n : Nd} (h : ari n.op < 0) : prt N n = false := by simp [prt, show ¬ 0 ≤ ari n.op by omega]
theorem ari_le (op : Int) : ari op ≤ 3 := by unfold ari; repeat' split <;> omega
def zB (a b c : Int) : Bool := decide (a = 0) && decide (b = 0) && decide (c = 0)
theorem neqz (a b c : Int) (w : World) : (binOp .neq 34 (.agg #[.int .i64 a, .int .u64 b, .int .u64 c]) (.agg #[.int .i64 0, .int .u64 0, .int .u64 0])).run Tryz.prog w = .ok (.bool (!zB a b c)) w := by
 unfold zB
 by_cases h1 : a = 0
 ·by_cases h2 : b = 0
  ·by_cases h3 : c = 0 <;> simp [go_sem, h1, h2, h3]
  ·simp [go_sem, h1, h2]
 ·simp [go_sem, h1]
theorem parts_neg {w : World} {g : Nat} {n : Nd} (h : ari n.op < 0) :
  Rt 91 #[.pointer (some ⟨g, 0, none⟩), .agg #[.int .i64 n.op, .int .i64 n.s, .int .i64 n.a, .int .i64 n.b, .int .i64 n.c, .int .i64 n.p, .int .i64 n.q, .int .i64 n.w, .int .u64 n.lo, .int .u64 n.hi, .string n.nm]] w (.bool false) := by
 obtain ⟨k, hk⟩ : ∃ k, k = ari n.op := ⟨_, rfl⟩
 have HA : Hid (∀ wx, Calls Tryz.prog 61 #[.int .i64 n.op] wx fun e w' => e = .returned (.int .i64 k) ∧ w' = wx) := fun wx => by rw [hk]; exact arity_any _ wx
 rw [← hk] at h
 clear hk
 go_enter Tryz.func91, Tryz.ntmps91
 go_wp2_with fail
 refine (HA.out _).mono ?_
 rintro e wz ⟨rfl, rfl⟩
 go_wp2_with fail
 go_ret
 exact ⟨rfl, by go_grown⟩
theorem loop_len (bs : ByteArray) : ∀ (k i : Nat) (r : List UInt8), bs.size - i = k → (ByteArray.toList.loop bs i r).length = r.length + k
 | 0, i, r, h => by
  unfold ByteArray.toList.loop
  rw [if_neg (by omega)]
  simp
 | k + 1, i, r, h => by
  unfold ByteArray.toList.loop
  rw [if_pos (by omega), loop_len bs k (i + 1) _ (by omega)]
  simp
  omega
theorem emp_eq (b : ByteArray) : b.toList.isEmpty = (b.size == 0) := by
 have h : b.toList.length = b.size := by
  unfold ByteArray.toList
  rw [loop_len b b.size 0 [] (by omega)]
  simp
 cases hl : b.toList with
 | nil => rw [hl] at h; simp at h; simp [← h]
 | cons x l => rw [hl] at h; simp at h; simp [← h]
theorem prt_eq {N : Nat} {n : Nd} {k : Int} (hk : ari n.op = k) : prt N n = (decide (0 ≤ k) && opB N k 0 n.a && opB N k 1 n.b && opB N k 2 n.c && (decide (n.op = 1) || zB n.w n.lo n.hi) && (decide (n.op = 2) || n.nm.size == 0)) := by subst hk; rfl
theorem parts_0 {w : World} {B g mi mv mo : Nat} {v : Value} {ns : List Nd} (h : Gr w B g mi mv v mo ns) {n : Nd} (hk : ari n.op = 0) :
  Rt 91 #[.pointer (some ⟨g, 0, none⟩), .agg #[.int .i64 n.op, .int .i64 n.s, .int .i64 n.a, .int .i64 n.b, .int .i64 n.c, .int .i64 n.p, .int .i64 n.q, .int .i64 n.w, .int .u64 n.lo, .int .u64 n.hi, .string n.nm]] w (.bool (prt ns.length n)) := by
 have HA : Hid (∀ wx, Calls Tryz.prog 61 #[.int .i64 n.op] wx fun e w' => e = .returned (.int .i64 0) ∧ w' = wx) := fun wx => by rw [← hk]; exact arity_any _ wx
 have H : Hid (∀ wx (i : Int), Below w.heap.size w wx → Calls Tryz.prog 41 #[.pointer (some ⟨g, 0, none⟩), .int .i64 i] wx fun e w' => e = .returned (.bool (hasB ns.length i)) ∧ w' = wx) := fun wx i hb => has_any (h.below hb) i
 obtain ⟨r, hr⟩ : ∃ r, r = prt ns.length n := ⟨_, rfl⟩
 rw [← hr]
 rw [prt_eq hk] at hr
 have HR : Hid _ := hr
 clear hr h
 have ho : n.op = 1 ∨ n.op = 2 := by unfold ari at hk; repeat' split at hk <;> omega
 clear hk
 have hnz := neqz
 obtain ⟨N, hN⟩ : ∃ N, N = ns.length := ⟨_, rfl⟩
 rw [← hN] at H HR
 clear hN
 go_enter Tryz.func91, Tryz.ntmps91
 go_wp2_with fail
 refine (HA.out _).mono ?_
 rintro e wz ⟨rfl, rfl⟩
 go_wp2_with fail
 refine wp_loop_rounds 1 ?_
 rw [rounds_succ]
 go_wp2_with fail
 refine wp_loop_rounds 4 ?_
 rw [rounds_succ]
 by_cases hb0 : n.a = 0
 rotate_left 1
 ·have z0 : (n.a != 0) = true := by simp [hb0]
  go_wp2_with fail
  go_ret
  exact ⟨by rw [HR.out]; simp [opB, hb0], by go_grown⟩
 have z0 : (n.a != 0) = false := by simp [hb0]
 go_wp2_with fail
 rw [rounds_succ]
 by_cases hb1 : n.b = 0
 rotate_left 1
 ·have z1 : (n.b != 0) = true := by simp [hb1]
  go_wp2_with fail
  go_ret
  exact ⟨by rw [HR.out]; simp [opB, hb0, hb1], by go_grown⟩
 have z1 : (n.b != 0) = false := by simp [hb1]
 go_wp2_with fail
 rw [rounds_succ]
 by_cases hb2 : n.c = 0
 rotate_left 1
 ·have z2 : (n.c != 0) = true := by simp [hb2]
  go_wp2_with fail
  go_ret
  exact ⟨by rw [HR.out]; simp [opB, hb0, hb1, hb2], by go_grown⟩
 have z2 : (n.c != 0) = false := by simp [hb2]
 go_wp2_with fail
 rw [rounds_succ]
 rcases ho with ho | ho
 ·skip
  go_wp2_with fail
  go_ret
  exact ⟨by rw [HR.out]; simp [opB, emp_eq, hb0, hb1, hb2, ho], by go_grown⟩
 ·skip
  cases hz : zB n.w n.lo n.hi
  ·go_wp2_with fail
   go_ret
   exact ⟨by rw [HR.out]; simp [opB, hb0, hb1, hb2, ho, hz], by go_grown⟩
  ·skip
   go_wp2_with fail
   go_ret
   exact ⟨by rw [HR.out]; simp [opB, hb0, hb1, hb2, ho, hz], by go_grown⟩
theorem parts_1 {w : World} {B g mi mv mo : Nat} {v : Value} {ns : List Nd} (h : Gr w B g mi mv v mo ns) {n : Nd} (hk : ari n.op = 1) :
  Rt 91 #[.pointer (some ⟨g, 0, none⟩), .agg #[.int .i64 n.op, .int .i64 n.s, .int .i64 n.a, .int .i64 n.b, .int .i64 n.c, .int .i64 n.p, .int .i64 n.q, .int .i64 n.w, .int .u64 n.lo, .int .u64 n.hi, .string n.nm]] w (.bool (prt ns.length n)) := by
 have HA : Hid (∀ wx, Calls Tryz.prog 61 #[.int .i64 n.op] wx fun e w' => e = .returned (.int .i64 1) ∧ w' = wx) := fun wx => by rw [← hk]; exact arity_any _ wx
 have H : Hid (∀ wx (i : Int), Below w.heap.size w wx → Calls Tryz.prog 41 #[.pointer (some ⟨g, 0, none⟩), .int .i64 i] wx fun e w' => e = .returned (.bool (hasB ns.length i)) ∧ w' = wx) := fun wx i hb => has_any (h.below hb) i
 obtain ⟨r, hr⟩ : ∃ r, r = prt ns.length n := ⟨_, rfl⟩
 rw [← hr]
 rw [prt_eq hk] at hr
 have HR : Hid _ := hr
 clear hr h
 have ho1 : ¬ n.op = 1 := fun e => by rw [e] at hk; revert hk; decide
 have ho2 : ¬ n.op = 2 := fun e => by rw [e] at hk; revert hk; decide
 clear hk
 have hnz := neqz
 obtain ⟨N, hN⟩ : ∃ N, N = ns.length := ⟨_, rfl⟩
 rw [← hN] at H HR
 clear hN
 go_enter Tryz.func91, Tryz.ntmps91
 go_wp2_with fail
 refine (HA.out _).mono ?_
 rintro e wz ⟨rfl, rfl⟩
 go_wp2_with fail
 refine wp_loop_rounds 2 ?_
 rw [rounds_succ]
 go_wp2_with fail
 refine (H.out _ _ (by go_grown)).mono ?_
 rintro e wz ⟨rfl, rfl⟩
 cases hb0 : hasB N n.a
 ·go_wp2_with fail
  go_ret
  exact ⟨by rw [HR.out]; simp [opB, hb0], by go_grown⟩
 ·go_wp2_with fail
  rw [rounds_succ]
  go_wp2_with fail
  refine wp_loop_rounds 3 ?_
  rw [rounds_succ]
  by_cases hb1 : n.b = 0
  rotate_left 1
  ·have z1 : (n.b != 0) = true := by simp [hb1]
   go_wp2_with fail
   go_ret
   exact ⟨by rw [HR.out]; simp [opB, hb0, hb1], by go_grown⟩
  have z1 : (n.b != 0) = false := by simp [hb1]
  go_wp2_with fail
  rw [rounds_succ]
  by_cases hb2 : n.c = 0
  rotate_left 1
  ·have z2 : (n.c != 0) = true := by simp [hb2]
   go_wp2_with fail
   go_ret
   exact ⟨by rw [HR.out]; simp [opB, hb0, hb1, hb2], by go_grown⟩
  have z2 : (n.c != 0) = false := by simp [hb2]
  go_wp2_with fail
  rw [rounds_succ]
  cases hz : zB n.w n.lo n.hi
  ·go_wp2_with fail
   go_ret
   exact ⟨by rw [HR.out]; simp [opB, hb0, hb1, hb2, ho1, ho2, hz], by go_grown⟩
  ·skip
   go_wp2_with fail
   go_ret
   exact ⟨by rw [HR.out]; simp [opB, emp_eq, hb0, hb1, hb2, ho1, ho2, hz], by go_grown⟩
theorem parts_2 {w : World} {B g mi mv mo : Nat} {v : Value} {ns : List Nd} (h : Gr w B g mi mv v mo ns) {n : Nd} (hk : ari n.op = 2) :
  Rt 91 #[.pointer (some ⟨g, 0, none⟩), .agg #[.int .i64 n.op, .int .i64 n.s, .int .i64 n.a, .int .i64 n.b, .int .i64 n.c, .int .i64 n.p, .int .i64 n.q, .int .i64 n.w, .int .u64 n.lo, .int .u64 n.hi, .string n.nm]] w (.bool (prt ns.length n)) := by
 have HA : Hid (∀ wx, Calls Tryz.prog 61 #[.int .i64 n.op] wx fun e w' => e = .returned (.int .i64 2) ∧ w' = wx) := fun wx => by rw [← hk]; exact arity_any _ wx
 have H : Hid (∀ wx (i : Int), Below w.heap.size w wx → Calls Tryz.prog 41 #[.pointer (some ⟨g, 0, none⟩), .int .i64 i] wx fun e w' => e = .returned (.bool (hasB ns.length i)) ∧ w' = wx) := fun wx i hb => has_any (h.below hb) i
 obtain ⟨r, hr⟩ : ∃ r, r = prt ns.length n := ⟨_, rfl⟩
 rw [← hr]
 rw [prt_eq hk] at hr
 have HR : Hid _ := hr
 clear hr h
 have ho1 : ¬ n.op = 1 := fun e => by rw [e] at hk; revert hk; decide
 have ho2 : ¬ n.op = 2 := fun e => by rw [e] at hk; revert hk; decide
 clear hk
 have hnz := neqz
 obtain ⟨N, hN⟩ : ∃ N, N = ns.length := ⟨_, rfl⟩
 rw [← hN] at H HR
 clear hN
 go_enter Tryz.func91, Tryz.ntmps91
 go_wp2_with fail
 refine (HA.out _).mono ?_
 rintro e wz ⟨rfl, rfl⟩
 go_wp2_with fail
 refine wp_loop_rounds 3 ?_
 rw [rounds_succ]
 go_wp2_with fail
 refine (H.out _ _ (by go_grown)).mono ?_
 rintro e wz ⟨rfl, rfl⟩
 cases hb0 : hasB N n.a
 ·go_wp2_with fail
  go_ret
  exact ⟨by rw [HR.out]; simp [opB, hb0], by go_grown⟩
 ·go_wp2_with fail
  rw [rounds_succ]
  go_wp2_with fail
  refine (H.out _ _ (by go_grown)).mono ?_
  rintro e wz ⟨rfl, rfl⟩
  cases hb1 : hasB N n.b
  ·go_wp2_with fail
   go_ret
   exact ⟨by rw [HR.out]; simp [opB, hb0, hb1], by go_grown⟩
  ·go_wp2_with fail
   rw [rounds_succ]
   go_wp2_with fail
   refine wp_loop_rounds 2 ?_
   rw [rounds_succ]
   by_cases hb2 : n.c = 0
   rotate_left 1
   ·have z2 : (n.c != 0) = true := by simp [hb2]
    go_wp2_with fail
    go_ret
    exact ⟨by rw [HR.out]; simp [opB, hb0, hb1, hb2], by go_grown⟩
   have z2 : (n.c != 0) = false := by simp [hb2]
   go_wp2_with fail
   rw [rounds_succ]
   cases hz : zB n.w n.lo n.hi
   ·go_wp2_with fail
    go_ret
    exact ⟨by rw [HR.out]; simp [opB, hb0, hb1, hb2, ho1, ho2, hz], by go_grown⟩
   ·skip
    go_wp2_with fail
    go_ret
    exact ⟨by rw [HR.out]; simp [opB, emp_eq, hb0, hb1, hb2, ho1, ho2, hz], by go_grown⟩
theorem parts_3 {w : World} {B g mi mv mo : Nat} {v : Value} {ns : List Nd} (h : Gr w B g mi mv v mo ns) {n : Nd} (hk : ari n.op = 3) :
  Rt 91 #[.pointer (some ⟨g, 0, none⟩), .agg #[.int .i64 n.op, .int .i64 n.s, .int .i64 n.a, .int .i64 n.b, .int .i64 n.c, .int .i64 n.p, .int .i64 n.q, .int .i64 n.w, .int .u64 n.lo, .int .u64 n.hi, .string n.nm]] w (.bool (prt ns.length n)) := by
 have HA : Hid (∀ wx, Calls Tryz.prog 61 #[.int .i64 n.op] wx fun e w' => e = .returned (.int .i64 3) ∧ w' = wx) := fun wx => by rw [← hk]; exact arity_any _ wx
 have H : Hid (∀ wx (i : Int), Below w.heap.size w wx → Calls Tryz.prog 41 #[.pointer (some ⟨g, 0, none⟩), .int .i64 i] wx fun e w' => e = .returned (.bool (hasB ns.length i)) ∧ w' = wx) := fun wx i hb => has_any (h.below hb) i
 obtain ⟨r, hr⟩ : ∃ r, r = prt ns.length n := ⟨_, rfl⟩
 rw [← hr]
 rw [prt_eq hk] at hr
 have HR : Hid _ := hr
 clear hr h
 have ho1 : ¬ n.op = 1 := fun e => by rw [e] at hk; revert hk; decide
 have ho2 : ¬ n.op = 2 := fun e => by rw [e] at hk; revert hk; decide
 clear hk
 have hnz := neqz
 obtain ⟨N, hN⟩ : ∃ N, N = ns.length := ⟨_, rfl⟩
 rw [← hN] at H HR
 clear hN
 go_enter Tryz.func91, Tryz.ntmps91
 go_wp2_with fail
 refine (HA.out _).mono ?_
 rintro e wz ⟨rfl, rfl⟩
 go_wp2_with fail
 refine wp_loop_rounds 4 ?_
 rw [rounds_succ]
 go_wp2_with fail
 refine (H.out _ _ (by go_grown)).mono ?_
 rintro e wz ⟨rfl, rfl⟩
 cases hb0 : hasB N n.a
 ·go_wp2_with fail
  go_ret
  exact ⟨by rw [HR.out]; simp [opB, hb0], by go_grown⟩
 ·go_wp2_with fail
  rw [rounds_succ]
  go_wp2_with fail
  refine (H.out _ _ (by go_grown)).mono ?_
  rintro e wz ⟨rfl, rfl⟩
  cases hb1 : hasB N n.b
  ·go_wp2_with fail
   go_ret
   exact ⟨by rw [HR.out]; simp [opB, hb0, hb1], by go_grown⟩
  ·go_wp2_with fail
   rw [rounds_succ]
   go_wp2_with fail
   refine (H.out _ _ (by go_grown)).mono ?_
   rintro e wz ⟨rfl, rfl⟩
   cases hb2 : hasB N n.c
   ·go_wp2_with fail
    go_ret
    exact ⟨by rw [HR.out]; simp [opB, hb0, hb1, hb2], by go_grown⟩
   ·go_wp2_with fail
    rw [rounds_succ]
    go_wp2_with fail
    refine wp_loop_rounds 1 ?_
    rw [rounds_succ]
    cases hz : zB n.w n.lo n.hi
    ·go_wp2_with fail
     go_ret
     exact ⟨by rw [HR.out]; simp [opB, hb0, hb1, hb2, ho1, ho2, hz], by go_grown⟩
    ·skip
     go_wp2_with fail
     go_ret
     exact ⟨by rw [HR.out]; simp [opB, emp_eq, hb0, hb1, hb2, ho1, ho2, hz], by go_grown⟩
theorem parts_any {w : World} {B g mi mv mo : Nat} {v : Value} {ns : List Nd} (h : Gr w B g mi mv v mo ns) (n : Nd) :
  Rt 91 #[.pointer (some ⟨g, 0, none⟩), .agg #[.int .i64 n.op, .int .i64 n.s, .int .i64 n.a, .int .i64 n.b, .int .i64 n.c, .int .i64 n.p, .int .i64 n.q, .int .i64 n.w, .int .u64 n.lo, .int .u64 n.hi, .string n.nm]] w (.bool (prt ns.length n)) := by
 by_cases h0 : ari n.op < 0
 ·rw [prt_ari h0]
  exact parts_neg h0
 ·have h3 := ari_le n.op
  have hx : ari n.op = 0 ∨ ari n.op = 1 ∨ ari n.op = 2 ∨ ari n.op = 3 := by omega
  rcases hx with hx | hx | hx | hx
  ·exact parts_0 h hx
  ·exact parts_1 h hx
  ·exact parts_2 h hx
  ·exact parts_3 h hx
end Go.Proofs.YtejljdbkocnhlaaGreat
