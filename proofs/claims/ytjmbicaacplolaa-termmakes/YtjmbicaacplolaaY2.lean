/- A graph of terms: its nodes, what they are worth, its blocks. -/
import Derived.Test.YtjmbicaacplolaaY1
import Derived.Test.YtjmbicaacplolaaX9
import Derived.Test.YtjmbicaacplolaaY0
namespace Go.Proofs.Ytjmbicaacplolaa
open Go.RowKit
set_option linter.unusedSimpArgs false
set_option linter.unusedVariables false

/-- A node. -/
structure Nd where
  op : Int
  s : Int
  a : Int
  b : Int
  c : Int
  p : Int
  q : Int
  w : Int
  lo : Int
  hi : Int
  nm : ByteArray
def Nd.cs (n : Nd) : List Value := [.int .i64 n.op, .int .i64 n.s, .int .i64 n.a, .int .i64 n.b, .int .i64 n.c, .int .i64 n.p, .int .i64 n.q, .int .i64 n.w, .int .u64 n.lo, .int .u64 n.hi, .string n.nm]
def Nd.val (n : Nd) : Value := .agg #[.int .i64 n.op, .int .i64 n.s, .int .i64 n.a, .int .i64 n.b, .int .i64 n.c, .int .i64 n.p, .int .i64 n.q, .int .i64 n.w, .int .u64 n.lo, .int .u64 n.hi, .string n.nm]
theorem Nd.val_inj {n m : Nd} (h : n.val = m.val) : n = m := by
  cases n; cases m
  simp only [Nd.val, Value.agg.injEq, Array.mk.injEq, List.cons.injEq, Value.int.injEq, Value.string.injEq, true_and, and_true] at h
  obtain ⟨h1, h2, h3, h4, h5, h6, h7, h8, h9, h10, h11⟩ := h
  simp [*]
theorem Nd.cs_len (n : Nd) : n.cs.length = 11 := rfl
theorem css_len (ns : List Nd) : (ns.flatMap Nd.cs).length = ns.length * 11 := by
  induction ns with
  | nil => rfl
  | cons n l ih => rw [List.flatMap_cons, List.length_append, ih, List.length_cons, Nd.cs_len]; omega
theorem css_at {ns : List Nd} {i : Nat} {n : Nd} (h : ns[i]? = some n) (j : Nat) (hj : j < 11) : (ns.flatMap Nd.cs)[i * 11 + j]? = n.cs[j]? := by
  induction ns generalizing i with
  | nil => simp at h
  | cons m l ih =>
    rw [List.flatMap_cons]
    cases i with
    | zero =>
      obtain rfl : m = n := by simpa using h
      rw [List.getElem?_append_left (by rw [Nd.cs_len]; omega), Nat.zero_mul, Nat.zero_add]
    | succ i =>
      rw [List.getElem?_append_right (by rw [Nd.cs_len]; omega), Nd.cs_len, show (i + 1) * 11 + j - 11 = i * 11 + j by omega]
      exact ih (by simpa using h)

/-- A node's number that is there. -/
def hasB (N : Nat) (i : Int) : Bool := decide (1 ≤ i) && decide (i ≤ (N : Int))
def opB (N : Nat) (k j : Int) (i : Int) : Bool := if j < k then hasB N i else decide (i = 0)
/-- Operator, operands, value and name stand where they may. -/
def prt (N : Nat) (n : Nd) : Bool := decide (0 ≤ ari n.op) && opB N (ari n.op) 0 n.a && opB N (ari n.op) 1 n.b && opB N (ari n.op) 2 n.c && (decide (n.op = 1) || (decide (n.w = 0) && decide (n.lo = 0) && decide (n.hi = 0))) && (decide (n.op = 2) || n.nm.size == 0)
/-- The sort of a node by its number. -/
def sAt (ns : List Nd) (i : Int) : Int := ((ns[(i - 1).toNat]?).map Nd.s).getD 0
/-- The sorts of its operands. -/
def oss (ns : List Nd) (n : Nd) : List Int := ([n.a, n.b, n.c].take (ari n.op).toNat).map (sAt ns)
/-- A variable of that name and of another sort. -/
def clash (ns : List Nd) (n : Nd) : Bool := ns.any fun m => decide (m.op = 2) && decide (m.nm = n.nm) && !decide (m.s = n.s)
/-- The sort that a node would have, and the error. -/
def srtOf (ns : List Nd) (n : Nd) : Int × Int :=
  if prt ns.length n = false then (0, 32)
  else if n.op = 1 then (if rgt n.w n.lo n.hi && decide (n.w = n.s) && decide (n.p = 0) && decide (n.q = 0) then (n.s, 0) else (0, 30))
  else if n.op = 2 then (if srt n.s && decide (n.p = 0) && decide (n.q = 0) then (if n.nm.size == 0 || clash ns n then (0, 34) else (n.s, 0)) else (0, 30))
  else srtF n.op n.p n.q (oss ns n)
/-- With its sort. -/
def Nd.wi (n : Nd) (s : Int) : Nd := { n with s := s }

/-- What the maps of a graph hold. -/
def idL (ns : List Nd) : List (Value × Value) := ns.mapIdx fun i n => (n.val, .int .i64 ((i : Int) + 1))
def varL (ns : List Nd) : List (Value × Value) := (ns.mapIdx fun i n => (n, i)).filterMap fun x => if x.1.op = 2 then some (.string x.1.nm, .int .i64 ((x.2 : Int) + 1)) else none
theorem idL_snoc (ns : List Nd) (n : Nd) : idL (ns ++ [n]) = idL ns ++ [(n.val, .int .i64 ((ns.length : Int) + 1))] := by simp [idL, List.mapIdx_append]
theorem varL_snoc (ns : List Nd) (n : Nd) : varL (ns ++ [n]) = varL ns ++ (if n.op = 2 then [(.string n.nm, .int .i64 ((ns.length : Int) + 1))] else []) := by
  unfold varL
  rw [List.mapIdx_append, List.filterMap_append]
  congr 1
  by_cases h : n.op = 2 <;> simp [h]
theorem mem_idL {ns : List Nd} {x : Value × Value} (h : x ∈ idL ns) : ∃ (i : Nat) (n : Nd), ns[i]? = some n ∧ x = (n.val, .int .i64 ((i : Int) + 1)) := by
  unfold idL at h
  obtain ⟨i, hi, e⟩ := List.mem_mapIdx.1 h
  exact ⟨i, ns[i], List.getElem?_eq_getElem hi, e.symm⟩
theorem in_idL {ns : List Nd} {i : Nat} {n : Nd} (h : ns[i]? = some n) : (n.val, Value.int .i64 ((i : Int) + 1)) ∈ idL ns := by
  obtain ⟨hi, e⟩ := List.getElem?_eq_some_iff.1 h
  unfold idL
  exact List.mem_mapIdx.2 ⟨i, hi, by rw [e]⟩
theorem mem_varL {ns : List Nd} {x : Value × Value} (h : x ∈ varL ns) : ∃ (i : Nat) (n : Nd), ns[i]? = some n ∧ n.op = 2 ∧ x = (.string n.nm, .int .i64 ((i : Int) + 1)) := by
  unfold varL at h
  obtain ⟨y, hy, e⟩ := List.mem_filterMap.1 h
  obtain ⟨i, hi, rfl⟩ := List.mem_mapIdx.1 hy
  by_cases h2 : ns[i].op = 2
  · rw [if_pos h2] at e
    exact ⟨i, ns[i], List.getElem?_eq_getElem hi, h2, (Option.some.inj e).symm⟩
  · rw [if_neg h2] at e
    cases e
theorem in_varL {ns : List Nd} {i : Nat} {n : Nd} (h : ns[i]? = some n) (h2 : n.op = 2) : (Value.string n.nm, Value.int .i64 ((i : Int) + 1)) ∈ varL ns := by
  obtain ⟨hi, e⟩ := List.getElem?_eq_some_iff.1 h
  unfold varL
  exact List.mem_filterMap.2 ⟨(n, i), List.mem_mapIdx.2 ⟨i, hi, by rw [e]⟩, by simp [h2]⟩

/-- What holds of the nodes of a graph. -/
structure Inv (ns : List Nd) : Prop where
  sorts : ∀ n ∈ ns, 0 ≤ n.s ∧ n.s ≤ 128
  once : ns.Nodup
  names : ∀ n ∈ ns, ∀ m ∈ ns, n.op = 2 → m.op = 2 → n.nm = m.nm → n = m
  canon : ∀ n ∈ ns, n.op = 2 → n.a = 0 ∧ n.b = 0 ∧ n.c = 0 ∧ n.p = 0 ∧ n.q = 0 ∧ n.w = 0 ∧ n.lo = 0 ∧ n.hi = 0
  kids : ∀ (i : Nat) (n : Nd), ns[i]? = some n → 0 ≤ n.a ∧ n.a ≤ i ∧ 0 ≤ n.b ∧ n.b ≤ i ∧ 0 ≤ n.c ∧ n.c ≤ i
theorem Inv.nil : Inv [] := ⟨(fun _ h => nomatch h), List.nodup_nil, (fun _ h => nomatch h), (fun _ h => nomatch h), (fun i n h => by simp at h)⟩

/-- The graph at block g (its maps: mi, mv; its nodes' slice: v) has room for mo nodes and holds ns; all of it lies from B on. -/
structure Gr (w : World) (B g mi mv : Nat) (v : Value) (mo : Nat) (ns : List Nd) : Prop where
  hd : w.heap[g]? = some (.cells #[.int .i64 (mo : Int), v, .map (some mi), .map (some mv)] 62)
  row : w.ownsRow B 36 11 v ns.length (ns.flatMap Nd.cs)
  ids : Mp w 36 mi (idL ns)
  vars : Mp w 9 mv (varL ns)
  bg : B ≤ g
  bi : B ≤ mi
  bv : B ≤ mv
  ne : mi ≠ mv
  most : mo ≤ 4096
  room : ns.length ≤ mo
  inv : Inv ns
end Go.Proofs.Ytjmbicaacplolaa
