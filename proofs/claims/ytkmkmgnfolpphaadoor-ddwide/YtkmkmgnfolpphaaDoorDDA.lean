/- Decision diagrams, as functions of lists: the table, questions, their answers. · Decision diagrams, as functions of lists: questions, how they are answered. · Decision diagrams, as functions of lists: a question's answer has its value. · Decision diagrams, as functions of lists: solve. · Decision diagrams, as functions of lists: what holds on solve's way. · Decision diagrams, as functions of lists: what a walk meets. · Decision diagrams, as functions of lists: how many assignments. · Decision diagrams, as functions of lists: where there is room, nothing goes. · Decision diagrams, as functions of lists: answers that are reckoned. -/
import Derived.Test.YtkmkmgnfolpphaaDoorProg
namespace Go.Proofs.YtkmkmgnfolpphaaDoor

/-- Three numbers: a node (variable, low, high), or a question. -/
abbrev T3 := Int × Int × Int
def nd0 : T3 := (0, 0, 0)
def at3 (ns : List T3) (i : Int) : T3 := ns.getD i.toNat nd0
/-- A number that is a diagram. -/
def alive (ns : List T3) (i : Int) : Prop := 0 ≤ i ∧ i.toNat < ns.length ∧ (i ≤ 1 ∨ at3 ns i ≠ nd0)
instance (ns : List T3) (i : Int) : Decidable (alive ns i) := by unfold alive; infer_instance
/-- What is reached. -/
inductive Rc (ns : List T3) (A : List Int) : Int → Prop
  | base {i : Int} (h : i ∈ A) : Rc ns A i
  | lo {i : Int} (h : Rc ns A i) (h2 : 2 ≤ i) : Rc ns A (at3 ns i).2.1
  | hi {i : Int} (h : Rc ns A i) (h2 : 2 ≤ i) : Rc ns A (at3 ns i).2.2

/-- What holds of a table. -/
structure Good (vars : Nat) (ns : List T3) (sp : List Int) : Prop where
  len : 2 ≤ ns.length
  z : at3 ns 0 = ((vars : Int), 0, 0)
  o : at3 ns 1 = ((vars : Int), 1, 1)
  nd : ∀ i : Int, 2 ≤ i → alive ns i → 0 ≤ (at3 ns i).1 ∧ (at3 ns i).1 < vars ∧ (at3 ns i).2.1 ≠ (at3 ns i).2.2 ∧ alive ns (at3 ns i).2.1 ∧ alive ns (at3 ns i).2.2 ∧ (at3 ns i).1 < (at3 ns (at3 ns i).2.1).1 ∧ (at3 ns i).1 < (at3 ns (at3 ns i).2.2).1
  uni : ∀ i j : Int, 2 ≤ i → 2 ≤ j → alive ns i → alive ns j → at3 ns i = at3 ns j → i = j
  spr : ∀ s ∈ sp, 2 ≤ s ∧ s.toNat < ns.length ∧ at3 ns s = nd0
  spn : List.Nodup sp

theorem at3_of {ns : List T3} {i : Nat} {n : T3} (h : ns[i]? = some n) : at3 ns (i : Int) = n := by
  unfold at3; rw [Int.toNat_natCast, List.getD_eq_getElem?_getD, h]; rfl
theorem at3_some {ns : List T3} {i : Nat} (h : i < ns.length) : ns[i]? = some (at3 ns (i : Int)) := by
  unfold at3; rw [Int.toNat_natCast, List.getD_eq_getElem?_getD, List.getElem?_eq_getElem h]; rfl
theorem alive.nat {ns : List T3} {i : Int} (h : alive ns i) : ∃ j : Nat, i = (j : Int) ∧ j < ns.length := ⟨i.toNat, by have := h.1; omega, h.2.1⟩
theorem Good.a0 {vars : Nat} {ns : List T3} {sp : List Int} (h : Good vars ns sp) : alive ns 0 := ⟨Int.le_refl _, by have := h.len; simp; omega, Or.inl (by decide)⟩
theorem Good.a1 {vars : Nat} {ns : List T3} {sp : List Int} (h : Good vars ns sp) : alive ns 1 := ⟨by decide, by have := h.len; simp; omega, Or.inl (by decide)⟩
theorem Good.var {vars : Nat} {ns : List T3} {sp : List Int} (h : Good vars ns sp) {i : Int} (hi : alive ns i) : 0 ≤ (at3 ns i).1 ∧ (at3 ns i).1 ≤ vars := by
  by_cases h2 : 2 ≤ i
  · have := h.nd i h2 hi
    omega
  · have h0 := hi.1
    rcases (show i = 0 ∨ i = 1 by omega) with rfl | rfl
    · rw [h.z]; simp
    · rw [h.o]; simp
theorem Good.top {vars : Nat} {ns : List T3} {sp : List Int} (h : Good vars ns sp) {i : Int} (hi : alive ns i) (hv : (at3 ns i).1 < vars) : 2 ≤ i := by
  have h0 := hi.1
  rcases (show i = 0 ∨ i = 1 ∨ 2 ≤ i by omega) with rfl | rfl | h2
  · rw [h.z] at hv; simp at hv
  · rw [h.o] at hv; simp at hv
  · exact h2
theorem Rc.alive {vars : Nat} {ns : List T3} {sp : List Int} (h : Good vars ns sp) {A : List Int} (hA : ∀ i ∈ A, alive ns i) {i : Int} (hi : Rc ns A i) : alive ns i := by
  induction hi with
  | base h => exact hA _ h
  | lo _ h2 ih => exact (h.nd _ h2 ih).2.2.2.1
  | hi _ h2 ih => exact (h.nd _ h2 ih).2.2.2.2.1
theorem Rc.mono {ns : List T3} {A B : List Int} (h : ∀ i ∈ A, Rc ns B i) {i : Int} (hi : Rc ns A i) : Rc ns B i := by
  induction hi with
  | base h' => exact h _ h'
  | lo _ h2 ih => exact Rc.lo ih h2
  | hi _ h2 ih => exact Rc.hi ih h2

/-! Values. -/
/-- A diagram's value under x; n: more than the variables that are left. -/
def ev (ns : List T3) (x : Int → Bool) : Nat → Int → Bool
  | 0, i => decide (i = 1)
  | n + 1, i => if i ≤ 1 then decide (i = 1) else if x (at3 ns i).1 then ev ns x n (at3 ns i).2.2 else ev ns x n (at3 ns i).2.1
def val (vars : Nat) (ns : List T3) (x : Int → Bool) (i : Int) : Bool := ev ns x (vars + 1) i
theorem ev_more {vars : Nat} {ns : List T3} {sp : List Int} (h : Good vars ns sp) (x : Int → Bool) : ∀ (n m : Nat) (i : Int), alive ns i → (vars : Int) - (at3 ns i).1 < n → (vars : Int) - (at3 ns i).1 < m → ev ns x n i = ev ns x m i := by
  intro n
  induction n with
  | zero => intro m i hi h1; have := (h.var hi).2; omega
  | succ n ih =>
    intro m i hi h1 h2
    cases m with
    | zero => have := (h.var hi).2; omega
    | succ m =>
      unfold ev
      by_cases h3 : i ≤ 1
      · rw [if_pos h3, if_pos h3]
      · rw [if_neg h3, if_neg h3]
        obtain ⟨q1, q2, q3, q4, q5, q6, q7⟩ := h.nd i (by omega) hi
        rw [ih m _ q5 (by omega) (by omega), ih m _ q4 (by omega) (by omega)]
theorem val_le {vars : Nat} {ns : List T3} {x : Int → Bool} {i : Int} (h : i ≤ 1) : val vars ns x i = decide (i = 1) := by
  unfold val ev; rw [if_pos h]
theorem val_step {vars : Nat} {ns : List T3} {sp : List Int} (h : Good vars ns sp) (x : Int → Bool) {i : Int} (hi : alive ns i) (h2 : 2 ≤ i) :
    val vars ns x i = if x (at3 ns i).1 then val vars ns x (at3 ns i).2.2 else val vars ns x (at3 ns i).2.1 := by
  obtain ⟨q1, q2, q3, q4, q5, q6, q7⟩ := h.nd i h2 hi
  have e1 : val vars ns x (at3 ns i).2.2 = ev ns x vars (at3 ns i).2.2 := ev_more h x _ _ _ q5 (by omega) (by omega)
  have e2 : val vars ns x (at3 ns i).2.1 = ev ns x vars (at3 ns i).2.1 := ev_more h x _ _ _ q4 (by omega) (by omega)
  rw [e1, e2]
  unfold val
  rw [ev, if_neg (by omega)]
/-- Only the variables from its own on count. -/
theorem val_congr {vars : Nat} {ns : List T3} {sp : List Int} (h : Good vars ns sp) {x y : Int → Bool} : ∀ (n : Nat) (i : Int), alive ns i → (vars : Int) - (at3 ns i).1 < n → (∀ k, (at3 ns i).1 ≤ k → k < vars → x k = y k) → val vars ns x i = val vars ns y i := by
  intro n
  induction n with
  | zero => intro i hi h1; have := (h.var hi).2; omega
  | succ n ih =>
    intro i hi h1 hxy
    by_cases h2 : 2 ≤ i
    · obtain ⟨q1, q2, q3, q4, q5, q6, q7⟩ := h.nd i h2 hi
      rw [val_step h x hi h2, val_step h y hi h2, hxy _ (Int.le_refl _) q2, ih _ q5 (by omega) (fun k hk => hxy k (by omega)), ih _ q4 (by omega) (fun k hk => hxy k (by omega))]
    · rw [val_le (by omega), val_le (by omega)]
def setx (x : Int → Bool) (v : Int) (b : Bool) : Int → Bool := fun k => if k = v then b else x k
/-- Equal functions have equal numbers. -/
theorem val_inj {vars : Nat} {ns : List T3} {sp : List Int} (h : Good vars ns sp) : ∀ (n : Nat) (i j : Int), alive ns i → alive ns j → (vars : Int) - (at3 ns i).1 < n → (vars : Int) - (at3 ns j).1 < n → (∀ x, val vars ns x i = val vars ns x j) → i = j := by
  intro n
  induction n with
  | zero => intro i j hi _ h1; have := (h.var hi).2; omega
  | succ n ih =>
    have key : ∀ i j : Int, alive ns i → alive ns j → (vars : Int) - (at3 ns i).1 < (n + 1 : Nat) → (∀ x, val vars ns x i = val vars ns x j) → ¬ ((at3 ns i).1 < (at3 ns j).1) := by
      intro i j hi hj h1 he hlt
      have h2 : 2 ≤ i := h.top hi (by have := (h.var hj).2; omega)
      obtain ⟨q1, q2, q3, q4, q5, q6, q7⟩ := h.nd i h2 hi
      refine q3 (ih _ _ q4 q5 (by omega) (by omega) fun x => ?_)
      have e0 := he (setx x (at3 ns i).1 false)
      have e1 := he (setx x (at3 ns i).1 true)
      rw [val_step h _ hi h2] at e0 e1
      rw [if_neg (by simp [setx])] at e0
      rw [if_pos (by simp [setx])] at e1
      have f0 : val vars ns (setx x (at3 ns i).1 false) (at3 ns i).2.1 = val vars ns x (at3 ns i).2.1 := val_congr h (vars + 1) _ q4 (by omega) (fun k hk _ => by unfold setx; rw [if_neg (by omega)])
      have f1 : val vars ns (setx x (at3 ns i).1 true) (at3 ns i).2.2 = val vars ns x (at3 ns i).2.2 := val_congr h (vars + 1) _ q5 (by omega) (fun k hk _ => by unfold setx; rw [if_neg (by omega)])
      have g0 : val vars ns (setx x (at3 ns i).1 false) j = val vars ns x j := val_congr h (vars + 1) _ hj (by have := (h.var hj).1; omega) (fun k hk _ => by unfold setx; rw [if_neg (by omega)])
      have g1 : val vars ns (setx x (at3 ns i).1 true) j = val vars ns x j := val_congr h (vars + 1) _ hj (by have := (h.var hj).1; omega) (fun k hk _ => by unfold setx; rw [if_neg (by omega)])
      rw [← f0, ← f1, e0, e1, g0, g1]
    intro i j hi hj h1 h1' he
    have n1 := key i j hi hj h1 he
    have n2 := key j i hj hi h1' (fun x => (he x).symm)
    have hv : (at3 ns i).1 = (at3 ns j).1 := by omega
    by_cases h2 : 2 ≤ i
    · have hq := h.nd i h2 hi
      have h3 : 2 ≤ j := h.top hj (by omega)
      obtain ⟨q1, q2, q3, q4, q5, q6, q7⟩ := hq
      obtain ⟨p1, p2, p3, p4, p5, p6, p7⟩ := h.nd j h3 hj
      refine h.uni i j h2 h3 hi hj ?_
      have es : ∀ (b : Bool) x, val vars ns (setx x (at3 ns i).1 b) i = val vars ns (setx x (at3 ns i).1 b) j := fun b x => he _
      have e1 : (at3 ns i).2.1 = (at3 ns j).2.1 := ih _ _ q4 p4 (by omega) (by omega) fun x => by
        have e := es false x
        rw [val_step h _ hi h2, val_step h _ hj h3, if_neg (by simp [setx]), if_neg (by simp [setx, hv])] at e
        rwa [val_congr h (x := setx x (at3 ns i).1 false) (y := x) (vars + 1) _ q4 (by omega) (fun k hk _ => by unfold setx; rw [if_neg (by omega)]),
          val_congr h (x := setx x (at3 ns i).1 false) (y := x) (vars + 1) _ p4 (by omega) (fun k hk _ => by unfold setx; rw [if_neg (by omega)])] at e
      have e2 : (at3 ns i).2.2 = (at3 ns j).2.2 := ih _ _ q5 p5 (by omega) (by omega) fun x => by
        have e := es true x
        rw [val_step h _ hi h2, val_step h _ hj h3, if_pos (by simp [setx]), if_pos (by simp [setx, hv])] at e
        rwa [val_congr h (x := setx x (at3 ns i).1 true) (y := x) (vars + 1) _ q5 (by omega) (fun k hk _ => by unfold setx; rw [if_neg (by omega)]),
          val_congr h (x := setx x (at3 ns i).1 true) (y := x) (vars + 1) _ p5 (by omega) (fun k hk _ => by unfold setx; rw [if_neg (by omega)])] at e
      exact Prod.ext hv (Prod.ext e1 e2)
    · have h3 : ¬ 2 ≤ j := fun h3 => by
        have := h.nd j h3 hj
        rcases (show i = 0 ∨ i = 1 by have := hi.1; omega) with rfl | rfl
        · rw [h.z] at hv; simp at hv; omega
        · rw [h.o] at hv; simp at hv; omega
      have e := he (fun _ => false)
      rw [val_le (by omega), val_le (by omega)] at e
      have := hi.1
      have := hj.1
      rcases (show i = 0 ∨ i = 1 by omega) with rfl | rfl <;> rcases (show j = 0 ∨ j = 1 by omega) with rfl | rfl <;> simp at e ⊢
theorem val_eq {vars : Nat} {ns : List T3} {sp : List Int} (h : Good vars ns sp) {i j : Int} (hi : alive ns i) (hj : alive ns j) (he : ∀ x, val vars ns x i = val vars ns x j) : i = j :=
  val_inj h (vars + 1) i j hi hj (by have := (h.var hi).1; omega) (by have := (h.var hj).1; omega) he
end Go.Proofs.YtkmkmgnfolpphaaDoor
namespace Go.Proofs.YtkmkmgnfolpphaaDoor

def excF (f h : Int) : T3 := if f = h then (0, 0, 0) else if f = 1 then (h, 0, 1) else (f, -1, h)
def plainG (f g h : Int) : T3 := if h = 0 then (min f g, max f g, h) else if g = 1 then (min f h, g, max f h) else (f, g, h)
def plainF (q : T3) : T3 :=
  if q.2.1 = -1 then excF (min q.1 q.2.2) (max q.1 q.2.2)
  else plainG q.1 (if q.1 = q.2.1 then 1 else q.2.1) (if q.1 = q.2.2 then 0 else q.2.2)
def knownF (q : T3) : Option Int := if q.1 = 0 ∨ q.2.1 = q.2.2 then some q.2.2 else if q.1 = 1 then some q.2.1 else none
def qval (v : Int → Bool) (q : T3) : Bool := if v q.1 then (if q.2.1 = -1 then !v q.2.2 else v q.2.1) else v q.2.2
def varOf (vars : Nat) (ns : List T3) (e : Int) : Int := if e = -1 then vars else (at3 ns e).1
def topF (vars : Nat) (ns : List T3) (q : T3) : Int := min (min (min (vars : Int) (varOf vars ns q.1)) (varOf vars ns q.2.1)) (varOf vars ns q.2.2)
def sideF (ns : List T3) (top : Int) (side : Bool) (e : Int) : Int := if e = -1 then e else if (at3 ns e).1 = top then (if side then (at3 ns e).2.2 else (at3 ns e).2.1) else e
def halfF (ns : List T3) (top : Int) (side : Bool) (q : T3) : T3 := (sideF ns top side q.1, sideF ns top side q.2.1, sideF ns top side q.2.2)

structure St where
  ns : List T3
  sp : List Int
  gone : Nat
def cntF (ns : List T3) : Nat := (ns.drop 2).countP (fun n => decide (n ≠ nd0))
def addF (S : St) (n : T3) : Int × St :=
  match S.sp.getLast? with
  | some s => (s, { S with ns := S.ns.set s.toNat n, sp := S.sp.dropLast })
  | none => ((S.ns.length : Int), { S with ns := S.ns ++ [n] })
open Classical in
noncomputable def keepF (ns : List T3) (A : List Int) : List T3 := ns.mapIdx fun i n => if i ≤ 1 ∨ Rc ns A (i : Int) then n else nd0
/-- The holes, the least one last. -/
def holesF (ns : List T3) : List Int := (((List.range ns.length).filter fun (i : Nat) => decide (2 ≤ i ∧ at3 ns (i : Int) = nd0)).reverse).map fun (i : Nat) => (i : Int)
noncomputable def colF (S : St) (A : List Int) : St := { ns := keepF S.ns A, sp := holesF (keepF S.ns A), gone := S.gone + 1 }
def findN (ns : List T3) (n : T3) : Option Int := (ns.findIdx? fun m => decide (m = n)).map fun (i : Nat) => (i : Int)
noncomputable def nodeF (most : Nat) (S : St) (A : List Int) (top no yes : Int) : Option Int × St :=
  if no = yes then (some no, S)
  else match findN S.ns (top, no, yes) with
  | some f => (some f, S)
  | none =>
    if cntF S.ns = most then
      if cntF (colF S A).ns = most then (none, colF S A)
      else ((some (addF (colF S A) (top, no, yes)).1), (addF (colF S A) (top, no, yes)).2)
    else ((some (addF S (top, no, yes)).1), (addF S (top, no, yes)).2)
def lookR (R : List (T3 × Int)) (q : T3) : Option Int := (R.find? fun p => decide (p.1 = q)).map fun p => p.2
abbrev Rs := List (T3 × Int)
noncomputable def solveF (vars most : Nat) (P O : List Int) : Nat → St → Rs → T3 → Option Int × St × Rs
  | 0, S, R, _ => (none, S, R)
  | n + 1, S, R, q =>
    match knownF (plainF q) with
    | some f => (some f, S, R)
    | none =>
      match lookR R (plainF q) with
      | some f => (some f, S, R)
      | none =>
        match solveF vars most P O n S R (halfF S.ns (topF vars S.ns (plainF q)) false (plainF q)) with
        | (none, S1, R1) => (none, S1, R1)
        | (some no, S1, R1) =>
          match solveF vars most P O n S1 R1 (halfF S1.ns (topF vars S.ns (plainF q)) true (plainF q)) with
          | (none, S2, R2) => (none, S2, R2)
          | (some yes, S2, R2) =>
            match nodeF most S2 (P ++ R2.map (·.2) ++ O) (topF vars S.ns (plainF q)) no yes with
            | (none, S3) => (none, S3, R2)
            | (some f, S3) => (some f, S3, R2 ++ [(plainF q, f)])

/-! The answers of plain questions. -/
theorem exc_val {v : Int → Bool} (v0 : v 0 = false) (v1 : v 1 = true) (f h : Int) : qval v (excF f h) = xor (v f) (v h) := by
  unfold excF
  by_cases e : f = h
  · rw [if_pos e]; subst e; simp [qval, v0]
  · rw [if_neg e]
    by_cases e1 : f = 1
    · rw [if_pos e1]; subst e1; simp [qval, v0, v1]
    · rw [if_neg e1]; simp only [qval, if_true]; cases v f <;> simp
theorem plainG_val {v : Int → Bool} (v0 : v 0 = false) (v1 : v 1 = true) (f g h : Int) (hf : f ≠ -1) (hg : g ≠ -1) : qval v (plainG f g h) = qval v (f, g, h) := by
  unfold plainG
  by_cases e : h = 0
  · rw [if_pos e]; subst e
    rcases Int.le_total f g with hl | hl
    · rw [Int.min_eq_left hl, Int.max_eq_right hl]
    · rw [Int.min_eq_right hl, Int.max_eq_left hl]
      simp only [qval, if_neg hg, if_neg hf, v0]; cases v f <;> cases v g <;> simp
  · rw [if_neg e]
    by_cases e1 : g = 1
    · rw [if_pos e1]; subst e1
      rcases Int.le_total f h with hl | hl
      · rw [Int.min_eq_left hl, Int.max_eq_right hl]
      · rw [Int.min_eq_right hl, Int.max_eq_left hl]
        simp only [qval, if_neg hg, v1]; cases v f <;> cases v h <;> simp
    · rw [if_neg e1]
theorem plain_val {v : Int → Bool} (v0 : v 0 = false) (v1 : v 1 = true) (q : T3) (hf : q.1 ≠ -1) : qval v (plainF q) = qval v q := by
  obtain ⟨f, g, h⟩ := q
  dsimp only at hf
  unfold plainF
  dsimp only
  by_cases hg : g = -1
  · rw [if_pos hg, exc_val v0 v1]
    subst hg
    rcases Int.le_total f h with hl | hl
    · rw [Int.min_eq_left hl, Int.max_eq_right hl]; simp only [qval, if_true]; cases v f <;> simp
    · rw [Int.min_eq_right hl, Int.max_eq_left hl]; simp only [qval, if_true]; cases v f <;> simp
  · rw [if_neg hg]
    by_cases e1 : f = g <;> by_cases e2 : f = h
    · rw [if_pos e1, if_pos e2, plainG_val v0 v1 _ _ _ hf (by decide)]
      subst e1; subst e2; simp [qval, hg, v0, v1]
    · rw [if_pos e1, if_neg e2, plainG_val v0 v1 _ _ _ hf (by decide)]
      subst e1; simp only [qval, if_neg hg, v1]; cases v f <;> simp
    · rw [if_neg e1, if_pos e2, plainG_val v0 v1 _ _ _ hf hg]
      subst e2; simp only [qval, if_neg hg, v0]; cases v f <;> simp
    · rw [if_neg e1, if_neg e2, plainG_val v0 v1 _ _ _ hf hg]
/-- What holds of each entry of a question holds of the plain one's. -/
theorem plain_all {p : Int → Prop} (p0 : p 0) (p1 : p 1) {q : T3} (h1 : p q.1) (h2 : q.2.1 = -1 ∨ p q.2.1) (h3 : p q.2.2) : p (plainF q).1 ∧ ((plainF q).2.1 = -1 ∨ p (plainF q).2.1) ∧ p (plainF q).2.2 := by
  obtain ⟨f, g, h⟩ := q
  dsimp only at h1 h2 h3
  have mn : ∀ a b : Int, p a → p b → p (min a b) := fun a b ha hb => by
    rcases Int.le_total a b with hl | hl
    · rwa [Int.min_eq_left hl]
    · rwa [Int.min_eq_right hl]
  have mx : ∀ a b : Int, p a → p b → p (max a b) := fun a b ha hb => by
    rcases Int.le_total a b with hl | hl
    · rwa [Int.max_eq_right hl]
    · rwa [Int.max_eq_left hl]
  have ge : ∀ a b : Int, p a → p b → p (excF a b).1 ∧ ((excF a b).2.1 = -1 ∨ p (excF a b).2.1) ∧ p (excF a b).2.2 := fun a b ha hb => by
    unfold excF
    split
    · exact ⟨p0, Or.inr p0, p0⟩
    · split
      · exact ⟨hb, Or.inr p0, p1⟩
      · exact ⟨ha, Or.inl rfl, hb⟩
  have gg : ∀ a b c : Int, p a → p b → p c → p (plainG a b c).1 ∧ ((plainG a b c).2.1 = -1 ∨ p (plainG a b c).2.1) ∧ p (plainG a b c).2.2 := fun a b c ha hb hc => by
    unfold plainG
    split
    · exact ⟨mn _ _ ha hb, Or.inr (mx _ _ ha hb), hc⟩
    · split
      · exact ⟨mn _ _ ha hc, Or.inr hb, mx _ _ ha hc⟩
      · exact ⟨ha, Or.inr hb, hc⟩
  unfold plainF
  dsimp only
  by_cases hg : g = -1
  · rw [if_pos hg]; exact ge _ _ (mn _ _ h1 h3) (mx _ _ h1 h3)
  · rw [if_neg hg]
    have h2' : p g := h2.resolve_left hg
    refine gg _ _ _ h1 ?_ ?_
    · split
      · exact p1
      · exact h2'
    · split
      · exact p0
      · exact h3
theorem plain_op {q : T3} (h1 : q.1 ≠ -1) (h3 : q.2.2 ≠ -1) (h : (plainF q).2.1 = -1) : (plainF q).1 ≠ 1 := by
  obtain ⟨f, g, e⟩ := q
  dsimp only at h1 h3
  have hx : ∀ a b : Int, (excF a b).2.1 = -1 → (excF a b).1 ≠ 1 := fun a b => by
    unfold excF
    split
    · intro h; simp at h
    · split
      · intro h; simp at h
      · next h => intro _; exact h
  have hG : ∀ a b c : Int, a ≠ -1 → b ≠ -1 → c ≠ -1 → (plainG a b c).2.1 ≠ -1 := fun a b c ha hb hc => by
    unfold plainG
    split
    · dsimp only; omega
    · split
      · exact hb
      · exact hb
  unfold plainF at h ⊢
  dsimp only at h ⊢
  by_cases hg : g = -1
  · rw [if_pos hg] at h ⊢; exact hx _ _ h
  · rw [if_neg hg] at h
    exact absurd h (hG _ _ _ h1 (by split <;> omega) (by split <;> omega))
theorem known_val {v : Int → Bool} (v0 : v 0 = false) (v1 : v 1 = true) {q : T3} (hh : q.2.2 ≠ -1) (ho : q.2.1 = -1 → q.1 ≠ 1) {f : Int} (h : knownF q = some f) : v f = qval v q ∧ (f = q.2.2 ∨ (f = q.2.1 ∧ q.2.1 ≠ -1)) := by
  unfold knownF at h
  by_cases h1 : q.1 = 0 ∨ q.2.1 = q.2.2
  · rw [if_pos h1] at h
    cases h
    refine ⟨?_, Or.inl rfl⟩
    unfold qval
    rcases h1 with e | e
    · rw [e, v0]; simp
    · rw [e, if_neg hh]; cases v q.1 <;> simp
  · rw [if_neg h1] at h
    by_cases h2 : q.1 = 1
    · rw [if_pos h2] at h
      cases h
      have hn : q.2.1 ≠ -1 := fun e => ho e h2
      refine ⟨?_, Or.inr ⟨rfl, hn⟩⟩
      unfold qval
      rw [h2, v1, if_pos rfl, if_neg hn]
    · rw [if_neg h2] at h; cases h
theorem known_none {q : T3} (h : knownF q = none) : q.1 ≠ 0 ∧ q.1 ≠ 1 ∧ q.2.1 ≠ q.2.2 := by
  unfold knownF at h
  by_cases h1 : q.1 = 0 ∨ q.2.1 = q.2.2
  · rw [if_pos h1] at h; cases h
  · rw [if_neg h1] at h
    by_cases h2 : q.1 = 1
    · rw [if_pos h2] at h; cases h
    · exact ⟨fun e => h1 (Or.inl e), h2, fun e => h1 (Or.inr e)⟩

/-! What a call leaves as it was. -/
structure Kp (ns ns' : List T3) (A : List Int) : Prop where
  at' : ∀ i, Rc ns A i → at3 ns' i = at3 ns i
  len : ns.length ≤ ns'.length
theorem Kp.refl (ns : List T3) (A : List Int) : Kp ns ns A := ⟨fun _ _ => rfl, Nat.le_refl _⟩
theorem Kp.rc {ns ns' : List T3} {A B : List Int} (h : Kp ns ns' A) (hB : ∀ i ∈ B, Rc ns A i) {i : Int} (hi : Rc ns B i) : Rc ns' B i := by
  induction hi with
  | base h' => exact Rc.base h'
  | lo h1 h2 ih => rw [← h.at' _ (h1.mono hB)]; exact Rc.lo ih h2
  | hi h1 h2 ih => rw [← h.at' _ (h1.mono hB)]; exact Rc.hi ih h2
theorem Kp.trans {a b c : List T3} {A B : List Int} (h : Kp a b A) (k : Kp b c B) (hAB : ∀ i ∈ A, Rc b B i) : Kp a c A :=
  ⟨fun i hi => by rw [k.at' i ((h.rc (fun j hj => Rc.base hj) hi).mono hAB), h.at' i hi], Nat.le_trans h.len k.len⟩
theorem Kp.sub {ns ns' : List T3} {A B : List Int} (h : Kp ns ns' A) (hB : ∀ i ∈ B, Rc ns A i) : Kp ns ns' B := ⟨fun i hi => h.at' i (hi.mono hB), h.len⟩
theorem Kp.alive {vars : Nat} {ns ns' : List T3} {sp : List Int} {A : List Int} (h : Kp ns ns' A) (g : Good vars ns sp) (hA : ∀ i ∈ A, alive ns i) {i : Int} (hi : Rc ns A i) : alive ns' i := by
  have ha := hi.alive g hA
  refine ⟨ha.1, Nat.lt_of_lt_of_le ha.2.1 h.len, ?_⟩
  rw [h.at' i hi]
  exact ha.2.2
theorem Kp.ev {ns ns' : List T3} {A : List Int} (h : Kp ns ns' A) (x : Int → Bool) : ∀ (n : Nat) (i : Int), Rc ns A i → ev ns' x n i = ev ns x n i := by
  intro n
  induction n with
  | zero => intro i _; rfl
  | succ n ih =>
    intro i hi
    unfold Go.Proofs.YtkmkmgnfolpphaaDoor.ev
    by_cases h2 : i ≤ 1
    · rw [if_pos h2, if_pos h2]
    · rw [if_neg h2, if_neg h2, h.at' i hi, ih _ (Rc.hi hi (by omega)), ih _ (Rc.lo hi (by omega))]
theorem Kp.val {vars : Nat} {ns ns' : List T3} {A : List Int} (h : Kp ns ns' A) (x : Int → Bool) {i : Int} (hi : Rc ns A i) : val vars ns' x i = val vars ns x i := h.ev x _ i hi

/-- 0, 1 and what is reached. -/
def Rz (ns : List T3) (A : List Int) (i : Int) : Prop := i = 0 ∨ i = 1 ∨ Rc ns A i
theorem Rz.alive {vars : Nat} {ns : List T3} {sp : List Int} (g : Good vars ns sp) {A : List Int} (hA : ∀ i ∈ A, Go.Proofs.YtkmkmgnfolpphaaDoor.alive ns i) {i : Int} (hi : Rz ns A i) : Go.Proofs.YtkmkmgnfolpphaaDoor.alive ns i := by
  rcases hi with rfl | rfl | h
  · exact g.a0
  · exact g.a1
  · exact h.alive g hA
theorem Rz.kp {ns ns' : List T3} {A B : List Int} (h : Kp ns ns' A) (hB : ∀ i ∈ B, Rc ns A i) {i : Int} (hi : Rz ns B i) : Rz ns' B i := hi.imp id (Or.imp id (h.rc hB))
theorem Rz.mono {ns : List T3} {A B : List Int} (h : ∀ i ∈ A, Rc ns B i) {i : Int} (hi : Rz ns A i) : Rz ns B i := hi.imp id (Or.imp id (Rc.mono h))
theorem Kp.atz {vars : Nat} {ns ns' : List T3} {sp sp' : List Int} {A : List Int} (h : Kp ns ns' A) (g : Good vars ns sp) (g' : Good vars ns' sp') {i : Int} (hi : Rz ns A i) : at3 ns' i = at3 ns i := by
  rcases hi with rfl | rfl | h'
  · rw [g.z, g'.z]
  · rw [g.o, g'.o]
  · exact h.at' i h'
theorem Kp.valz {vars : Nat} {ns ns' : List T3} {A : List Int} (h : Kp ns ns' A) (x : Int → Bool) {i : Int} (hi : Rz ns A i) : Go.Proofs.YtkmkmgnfolpphaaDoor.val vars ns' x i = Go.Proofs.YtkmkmgnfolpphaaDoor.val vars ns x i := by
  rcases hi with rfl | rfl | h'
  · rw [val_le (by decide), val_le (by decide)]
  · rw [val_le (by decide), val_le (by decide)]
  · exact h.val x h'

/-! The table's calls. -/
theorem at3_set {ns : List T3} {s : Int} {n : T3} {i : Int} (hi : 0 ≤ i) (hs : 0 ≤ s) (hl : s.toNat < ns.length) : at3 (ns.set s.toNat n) i = if i = s then n else at3 ns i := by
  unfold at3
  rw [List.getD_eq_getElem?_getD, List.getElem?_set, List.getD_eq_getElem?_getD]
  by_cases e : i = s
  · subst e; simp [hl]
  · rw [if_neg (by omega), if_neg e]
theorem at3_snoc {ns : List T3} {n : T3} {i : Int} (hi : 0 ≤ i) : at3 (ns ++ [n]) i = if i.toNat < ns.length then at3 ns i else if i = (ns.length : Int) then n else nd0 := by
  unfold at3
  rw [List.getD_eq_getElem?_getD, List.getElem?_append, List.getD_eq_getElem?_getD]
  by_cases e : i.toNat < ns.length
  · rw [if_pos e, if_pos e]
  · rw [if_neg e, if_neg e]
    by_cases e2 : i = (ns.length : Int)
    · rw [if_pos e2]; subst e2; simp
    · rw [if_neg e2, List.getElem?_eq_none (by simp; omega)]; rfl
/-- A node that may be made. -/
structure NdOk (vars : Nat) (ns : List T3) (n : T3) : Prop where
  v : 0 ≤ n.1 ∧ n.1 < vars
  ne : n.2.1 ≠ n.2.2
  lo : alive ns n.2.1
  hi : alive ns n.2.2
  vl : n.1 < (at3 ns n.2.1).1
  vh : n.1 < (at3 ns n.2.2).1
  new : ∀ i : Int, 2 ≤ i → alive ns i → at3 ns i ≠ n
theorem NdOk.nz {vars : Nat} {ns : List T3} {n : T3} (h : NdOk vars ns n) : n ≠ nd0 := fun e => h.ne (by rw [e]; rfl)
/-- Where one place, dead ahead, takes a new node. -/
theorem good_put {vars : Nat} {ns ns' : List T3} {sp sp' : List Int} {n : T3} {s : Int} (g : Good vars ns sp) (h : NdOk vars ns n) (hs : 2 ≤ s) (hd : ¬ alive ns s) (hl : ns.length ≤ ns'.length) (hsl : s.toNat < ns'.length)
    (hat : ∀ i : Int, 0 ≤ i → at3 ns' i = if i = s then n else at3 ns i) (hrange : ∀ i : Int, 0 ≤ i → i.toNat < ns'.length → i ≠ s → i.toNat < ns.length)
    (hsp : ∀ x ∈ sp', x ∈ sp ∧ x ≠ s) (hnd : List.Nodup sp') : Good vars ns' sp' ∧ alive ns' s ∧ at3 ns' s = n ∧ (∀ i, alive ns i → alive ns' i ∧ at3 ns' i = at3 ns i) := by
  have hsn : at3 ns' s = n := by rw [hat s (by omega), if_pos rfl]
  have hz := h.nz
  have keep : ∀ i, alive ns i → alive ns' i ∧ at3 ns' i = at3 ns i := fun i hi => by
    have e : i ≠ s := fun e => hd (e ▸ hi)
    have e2 : at3 ns' i = at3 ns i := by rw [hat i hi.1, if_neg e]
    exact ⟨⟨hi.1, Nat.lt_of_lt_of_le hi.2.1 hl, by rw [e2]; exact hi.2.2⟩, e2⟩
  have back : ∀ i, 2 ≤ i → alive ns' i → i = s ∨ (alive ns i ∧ at3 ns' i = at3 ns i) := fun i h2 hi => by
    by_cases e : i = s
    · exact Or.inl e
    · have e2 : at3 ns' i = at3 ns i := by rw [hat i hi.1, if_neg e]
      exact Or.inr ⟨⟨hi.1, hrange i hi.1 hi.2.1 e, by rw [← e2]; exact hi.2.2⟩, e2⟩
  have asv : alive ns' s := ⟨by omega, hsl, Or.inr (by rw [hsn]; exact hz)⟩
  refine ⟨⟨Nat.le_trans g.len hl, ?_, ?_, ?_, ?_, ?_, hnd⟩, asv, hsn, keep⟩
  · rw [hat 0 (by decide), if_neg (by omega)]; exact g.z
  · rw [hat 1 (by decide), if_neg (by omega)]; exact g.o
  · intro i h2 hi
    rcases back i h2 hi with rfl | ⟨ha, e⟩
    · rw [hsn]
      obtain ⟨k1, k2⟩ := keep _ h.lo
      obtain ⟨k3, k4⟩ := keep _ h.hi
      exact ⟨h.v.1, h.v.2, h.ne, k1, k3, by rw [k2]; exact h.vl, by rw [k4]; exact h.vh⟩
    · rw [e]
      obtain ⟨q1, q2, q3, q4, q5, q6, q7⟩ := g.nd i h2 ha
      obtain ⟨k1, k2⟩ := keep _ q4
      obtain ⟨k3, k4⟩ := keep _ q5
      exact ⟨q1, q2, q3, k1, k3, by rw [k2]; exact q6, by rw [k4]; exact q7⟩
  · intro i j h2 h3 hi hj e
    rcases back i h2 hi with rfl | ⟨ha, e1⟩
    · rcases back j h3 hj with rfl | ⟨hb, e2⟩
      · rfl
      · rw [hsn, e2] at e
        exact absurd e.symm (h.new j h3 hb)
    · rcases back j h3 hj with rfl | ⟨hb, e2⟩
      · rw [hsn, e1] at e
        exact absurd e (h.new i h2 ha)
      · rw [e1, e2] at e
        exact g.uni i j h2 h3 ha hb e
  · intro x hx
    obtain ⟨h1, h2⟩ := hsp x hx
    obtain ⟨p1, p2, p3⟩ := g.spr x h1
    exact ⟨p1, Nat.lt_of_lt_of_le p2 hl, by rw [hat x (by omega), if_neg h2]; exact p3⟩
theorem getLast_mem' {l : List Int} {s : Int} (h : l.getLast? = some s) : s ∈ l := List.mem_of_getLast? h
theorem dropLast_ne {l : List Int} {s : Int} (h : l.getLast? = some s) (hn : List.Nodup l) : (∀ x ∈ l.dropLast, x ∈ l ∧ x ≠ s) ∧ List.Nodup l.dropLast := by
  obtain ⟨a, rfl⟩ : ∃ a, l = a ++ [s] := by
    rcases List.eq_nil_or_concat l with rfl | ⟨a, b, rfl⟩
    · cases h
    · simp at h; exact ⟨a, by rw [h]; simp⟩
  rw [List.dropLast_concat]
  rw [List.nodup_append] at hn
  exact ⟨fun x hx => ⟨List.mem_append_left _ hx, hn.2.2 x hx s (by simp)⟩, hn.1⟩
theorem addF_ok {vars : Nat} {S : St} {n : T3} (g : Good vars S.ns S.sp) (h : NdOk vars S.ns n) :
    Good vars (addF S n).2.ns (addF S n).2.sp ∧ alive (addF S n).2.ns (addF S n).1 ∧ 2 ≤ (addF S n).1 ∧ at3 (addF S n).2.ns (addF S n).1 = n ∧ (∀ i, alive S.ns i → alive (addF S n).2.ns i ∧ at3 (addF S n).2.ns i = at3 S.ns i) ∧ S.ns.length ≤ (addF S n).2.ns.length ∧ (addF S n).2.gone = S.gone := by
  unfold addF
  cases hl : S.sp.getLast? with
  | some s =>
    obtain ⟨p1, p2, p3⟩ := g.spr s (getLast_mem' hl)
    obtain ⟨d1, d2⟩ := dropLast_ne hl g.spn
    have hd : ¬ alive S.ns s := fun ha => by
      rcases ha.2.2 with e | e
      · omega
      · exact e p3
    have := good_put (ns' := S.ns.set s.toNat n) (sp' := S.sp.dropLast) g h p1 hd (by simp) (by simp; exact p2) (fun i hi => at3_set hi (by omega) p2) (fun i _ hi _ => by simpa using hi) d1 d2
    obtain ⟨r1, r2, r3, r4⟩ := this
    exact ⟨r1, r2, p1, r3, r4, by simp, rfl⟩
  | none =>
    have h0 : S.sp = [] := List.getLast?_eq_none_iff.1 hl
    have hlen := g.len
    have hd : ¬ alive S.ns (S.ns.length : Int) := fun ha => by have := ha.2.1; simp at this
    have := good_put (ns' := S.ns ++ [n]) (sp' := S.sp) (s := (S.ns.length : Int)) g h (by omega) hd (by simp) (by simp) (fun i hi => by
      rw [at3_snoc hi]
      by_cases e : i = (S.ns.length : Int)
      · subst e; simp
      · rw [if_neg e, if_neg e]
        split
        · rfl
        · unfold at3; rw [List.getD_eq_getElem?_getD, List.getElem?_eq_none (by omega)]; rfl) (fun i h0 hi hne => by simp at hi; omega) (fun x hx => by rw [h0] at hx; cases hx) (by rw [h0]; exact List.nodup_nil)
    obtain ⟨r1, r2, r3, r4⟩ := this
    exact ⟨r1, r2, by dsimp only; omega, r3, r4, by simp, rfl⟩
end Go.Proofs.YtkmkmgnfolpphaaDoor
namespace Go.Proofs.YtkmkmgnfolpphaaDoor

open Classical in
theorem at3_keep {ns : List T3} {A : List Int} {i : Int} (hi : 0 ≤ i) (hl : i.toNat < ns.length) : at3 (keepF ns A) i = if i ≤ 1 ∨ Rc ns A i then at3 ns i else nd0 := by
  obtain ⟨j, rfl⟩ : ∃ j : Nat, i = (j : Int) := ⟨i.toNat, by omega⟩
  rw [Int.toNat_natCast] at hl
  have e : ((j : Int) ≤ 1 ∨ Rc ns A (j : Int)) = (j ≤ 1 ∨ Rc ns A (j : Int)) := by
    have : ((j : Int) ≤ 1) = (j ≤ 1) := propext ⟨fun h => by omega, fun h => by omega⟩
    rw [this]
  unfold at3 keepF
  rw [Int.toNat_natCast, List.getD_eq_getElem?_getD, List.getElem?_mapIdx, List.getD_eq_getElem?_getD, List.getElem?_eq_getElem hl]
  simp only [Option.map_some, Option.getD_some]
  by_cases h : j ≤ 1 ∨ Rc ns A (j : Int)
  · rw [if_pos h, if_pos (by rw [e]; exact h)]
  · rw [if_neg h, if_neg (by rw [e]; exact h)]
theorem keep_len (ns : List T3) (A : List Int) : (keepF ns A).length = ns.length := by unfold keepF; simp
theorem mem_holes {ns : List T3} {s : Int} (h : s ∈ holesF ns) : 2 ≤ s ∧ s.toNat < ns.length ∧ at3 ns s = nd0 := by
  unfold holesF at h
  simp only [List.mem_map, List.mem_reverse, List.mem_filter, List.mem_range, decide_eq_true_eq] at h
  obtain ⟨j, ⟨h1, h2, h3⟩, rfl⟩ := h
  exact ⟨by omega, by simpa using h1, h3⟩
theorem holes_nodup (ns : List T3) : List.Nodup (holesF ns) := by
  unfold holesF List.Nodup
  rw [List.pairwise_map, List.pairwise_reverse]
  exact (List.Pairwise.filter _ (List.nodup_range)).imp (fun h e => h (by omega))
theorem colF_ok {vars : Nat} {S : St} {A : List Int} (g : Good vars S.ns S.sp) (hA : ∀ i ∈ A, alive S.ns i) :
    Good vars (colF S A).ns (colF S A).sp ∧ Kp S.ns (colF S A).ns A := by
  have hl := keep_len S.ns A
  have low : ∀ i : Int, 0 ≤ i → i ≤ 1 → at3 (keepF S.ns A) i = at3 S.ns i := fun i h0 h1 => by
    rw [at3_keep h0 (by have := g.len; omega), if_pos (Or.inl h1)]
  have rc : ∀ i : Int, Rc S.ns A i → at3 (keepF S.ns A) i = at3 S.ns i := fun i h => by
    have ha := h.alive g hA
    rw [at3_keep ha.1 ha.2.1, if_pos (Or.inr h)]
  have rca : ∀ i : Int, Rc S.ns A i → alive (keepF S.ns A) i := fun i h => by
    have ha := h.alive g hA
    exact ⟨ha.1, by rw [hl]; exact ha.2.1, by rw [rc i h]; exact ha.2.2⟩
  have back : ∀ i : Int, 2 ≤ i → alive (keepF S.ns A) i → Rc S.ns A i ∧ alive S.ns i := fun i h2 h => by
    have h1 := h.2.1
    rw [hl] at h1
    rcases h.2.2 with e | e
    · omega
    · rw [at3_keep h.1 h1] at e
      split at e
      · next h' =>
        rcases h' with e' | e'
        · omega
        · exact ⟨e', e'.alive g hA⟩
      · exact absurd rfl e
  refine ⟨⟨by show 2 ≤ (keepF S.ns A).length; rw [hl]; exact g.len, ?_, ?_, ?_, ?_, fun s hs => mem_holes hs, holes_nodup _⟩, ⟨rc, by show S.ns.length ≤ (keepF S.ns A).length; rw [hl]; exact Nat.le_refl _⟩⟩
  · rw [show (colF S A).ns = keepF S.ns A from rfl, low 0 (by decide) (by decide)]; exact g.z
  · rw [show (colF S A).ns = keepF S.ns A from rfl, low 1 (by decide) (by decide)]; exact g.o
  · intro i h2 hi
    rw [show (colF S A).ns = keepF S.ns A from rfl] at hi ⊢
    obtain ⟨h3, h4⟩ := back i h2 hi
    rw [rc i h3]
    obtain ⟨q1, q2, q3, q4, q5, q6, q7⟩ := g.nd i h2 h4
    have r1 := Rc.lo h3 h2
    have r2 := Rc.hi h3 h2
    exact ⟨q1, q2, q3, rca _ r1, rca _ r2, by rw [rc _ r1]; exact q6, by rw [rc _ r2]; exact q7⟩
  · intro i j h2 h3 hi hj e
    rw [show (colF S A).ns = keepF S.ns A from rfl] at hi hj e
    obtain ⟨a1, a2⟩ := back i h2 hi
    obtain ⟨b1, b2⟩ := back j h3 hj
    rw [rc i a1, rc j b1] at e
    exact g.uni i j h2 h3 a2 b2 e
theorem findN_some {vars : Nat} {ns : List T3} {sp : List Int} (g : Good vars ns sp) {n : T3} (hn : n.2.1 ≠ n.2.2) {f : Int} (h : findN ns n = some f) : 2 ≤ f ∧ alive ns f ∧ at3 ns f = n := by
  unfold findN at h
  obtain ⟨i, hi, rfl⟩ := Option.map_eq_some_iff.1 h
  rw [List.findIdx?_eq_some_iff_getElem] at hi
  obtain ⟨h1, h2, _⟩ := hi
  have e : at3 ns (i : Int) = n := by rw [at3_of (List.getElem?_eq_getElem h1)]; exact of_decide_eq_true h2
  have hz : n ≠ nd0 := fun e => hn (by rw [e]; rfl)
  have h3 : 2 ≤ (i : Int) := by
    rcases (show (i : Int) = 0 ∨ (i : Int) = 1 ∨ 2 ≤ (i : Int) by omega) with h | h | h
    · rw [h, g.z] at e; exact absurd (by rw [← e]) hn
    · rw [h, g.o] at e; exact absurd (by rw [← e]) hn
    · exact h
  exact ⟨h3, ⟨by omega, by simpa using h1, Or.inr (by rw [e]; exact hz)⟩, e⟩
theorem findN_none {ns : List T3} {n : T3} (h : findN ns n = none) {i : Int} (hi : alive ns i) : at3 ns i ≠ n := fun e => by
  unfold findN at h
  have h1 := Option.map_eq_none_iff.1 h
  rw [List.findIdx?_eq_none_iff] at h1
  obtain ⟨j, rfl, hj⟩ := hi.nat
  have := h1 (ns[j]) (List.getElem_mem hj)
  rw [at3_of (List.getElem?_eq_getElem hj)] at e
  simp [e] at this

/-- What node answers. -/
structure NOk (vars : Nat) (S S' : St) (A : List Int) (top no yes : Int) (r : Option Int) : Prop where
  good : Good vars S'.ns S'.sp
  kp : Kp S.ns S'.ns A
  gone : S.gone ≤ S'.gone
  res : ∀ f, r = some f → alive S'.ns f ∧ top ≤ (at3 S'.ns f).1 ∧ ∀ x, val vars S'.ns x f = if x top then val vars S'.ns x yes else val vars S'.ns x no
theorem nodeF_ok {vars most : Nat} {S : St} {A : List Int} {top no yes : Int} (g : Good vars S.ns S.sp) (hA : ∀ i ∈ A, alive S.ns i) (ht : 0 ≤ top ∧ top < vars) (hn : Rz S.ns A no) (hy : Rz S.ns A yes) (vn : top < (at3 S.ns no).1) (vy : top < (at3 S.ns yes).1) :
    NOk vars S (nodeF most S A top no yes).2 A top no yes (nodeF most S A top no yes).1 := by
  have an := hn.alive g hA
  have ay := hy.alive g hA
  unfold nodeF
  by_cases e : no = yes
  · rw [if_pos e]
    refine ⟨g, Kp.refl _ _, Nat.le_refl _, fun f hf => ?_⟩
    cases hf
    exact ⟨an, by show top ≤ (at3 S.ns no).1; omega, fun x => by rw [← e]; split <;> rfl⟩
  · rw [if_neg e]
    have step : ∀ {S1 : St} {f : Int}, Good vars S1.ns S1.sp → 2 ≤ f → alive S1.ns f → at3 S1.ns f = (top, no, yes) → top ≤ (at3 S1.ns f).1 ∧ ∀ x, val vars S1.ns x f = if x top then val vars S1.ns x yes else val vars S1.ns x no := fun g1 h2 ha e => by
      refine ⟨by rw [e]; exact Int.le_refl _, fun x => ?_⟩
      rw [val_step g1 x ha h2, e]
    cases hf : findN S.ns (top, no, yes) with
    | some f =>
      obtain ⟨p1, p2, p3⟩ := findN_some g (by exact e) hf
      refine ⟨g, Kp.refl _ _, Nat.le_refl _, fun f' hf' => ?_⟩
      cases hf'
      exact ⟨p2, step g p1 p2 p3⟩
    | none =>
      have put : ∀ {S1 : St}, Good vars S1.ns S1.sp → Kp S.ns S1.ns A → S.gone ≤ S1.gone → (∀ i : Int, 2 ≤ i → alive S1.ns i → at3 S1.ns i ≠ (top, no, yes)) →
          NOk vars S (addF S1 (top, no, yes)).2 A top no yes (some (addF S1 (top, no, yes)).1) := fun {S1} g1 k1 hg1 hnew => by
        have n1 : at3 S1.ns no = at3 S.ns no := k1.atz g g1 hn
        have n2 : at3 S1.ns yes = at3 S.ns yes := k1.atz g g1 hy
        have a1 : alive S1.ns no := ⟨an.1, Nat.lt_of_lt_of_le an.2.1 k1.len, by rw [n1]; exact an.2.2⟩
        have a2 : alive S1.ns yes := ⟨ay.1, Nat.lt_of_lt_of_le ay.2.1 k1.len, by rw [n2]; exact ay.2.2⟩
        obtain ⟨r1, r2, r3, r4, r5, r6, r7⟩ := addF_ok g1 (n := (top, no, yes)) ⟨ht, e, a1, a2, by rw [n1]; exact vn, by rw [n2]; exact vy, hnew⟩
        refine ⟨r1, ⟨fun i hi => ?_, Nat.le_trans k1.len r6⟩, by rw [r7]; exact hg1, fun f hf => ?_⟩
        · rw [(r5 i (k1.alive g hA hi)).2, k1.at' i hi]
        · cases hf
          exact ⟨r2, step r1 r3 r2 r4⟩
      dsimp only
      by_cases hc : cntF S.ns = most
      · rw [if_pos hc]
        obtain ⟨c1, c2⟩ := colF_ok (A := A) g hA
        by_cases hc2 : cntF (colF S A).ns = most
        · rw [if_pos hc2]
          exact ⟨c1, c2, Nat.le_succ _, fun f hf => nomatch hf⟩
        · rw [if_neg hc2]
          refine put c1 c2 (Nat.le_succ _) fun i h2 hi he => ?_
          have hi1 : alive (keepF S.ns A) i := hi
          have hlen := keep_len S.ns A
          have hl : i.toNat < S.ns.length := by rw [← hlen]; exact hi1.2.1
          have he' : at3 (keepF S.ns A) i = (top, no, yes) := he
          rw [at3_keep hi1.1 hl] at he'
          split at he'
          · exact findN_none hf ⟨hi1.1, hl, by rw [he']; exact Or.inr (fun q => e (by injection q with _ q; injection q with q1 q2; rw [q1, q2]))⟩ he'
          · exact e (by injection he' with _ q; injection q with q1 q2; rw [← q1, ← q2])
      · rw [if_neg hc]
        exact put g (Kp.refl _ _) (Nat.le_refl _) fun i _ hi => findN_none hf hi
end Go.Proofs.YtkmkmgnfolpphaaDoor
namespace Go.Proofs.YtkmkmgnfolpphaaDoor

/-- A question over what the operands are made of. -/
structure QOk (ns : List T3) (O : List Int) (q : T3) : Prop where
  f : Rz ns O q.1
  g : q.2.1 = -1 ∨ Rz ns O q.2.1
  h : Rz ns O q.2.2
/-- None of its variables comes ahead of t. -/
structure LB (ns : List T3) (q : T3) (t : Int) : Prop where
  f : t ≤ (at3 ns q.1).1
  g : q.2.1 = -1 ∨ t ≤ (at3 ns q.2.1).1
  h : t ≤ (at3 ns q.2.2).1
/-- What was found on the way. -/
def RsOk (vars : Nat) (ns : List T3) (O : List Int) (R : Rs) : Prop :=
  ∀ p ∈ R, QOk ns O p.1 ∧ alive ns p.2 ∧ (∀ x, val vars ns x p.2 = qval (val vars ns x) p.1) ∧ ∀ t, LB ns p.1 t → t ≤ (at3 ns p.2).1
def valsR (R : Rs) : List Int := R.map (·.2)

theorem rz_nn {ns : List T3} {O : List Int} {i : Int} {vars : Nat} {sp : List Int} (g : Good vars ns sp) (hO : ∀ i ∈ O, alive ns i) (h : Rz ns O i) : 0 ≤ i := (h.alive g hO).1
theorem side_ok {vars : Nat} {ns : List T3} {sp : List Int} (g : Good vars ns sp) {O : List Int} (hO : ∀ i ∈ O, alive ns i) {top : Int} (ht : top < vars) (b : Bool) {e : Int} (he : Rz ns O e) (hl : top ≤ (at3 ns e).1) :
    Rz ns O (sideF ns top b e) ∧ top + 1 ≤ (at3 ns (sideF ns top b e)).1 ∧ ∀ x, x top = b → val vars ns x e = val vars ns x (sideF ns top b e) := by
  have ha := he.alive g hO
  have h1 : e ≠ -1 := by have := ha.1; omega
  unfold sideF
  rw [if_neg h1]
  by_cases h2 : (at3 ns e).1 = top
  · have h3 : 2 ≤ e := g.top ha (by omega)
    obtain ⟨q1, q2, q3, q4, q5, q6, q7⟩ := g.nd e h3 ha
    have hr : Rc ns O e := by
      rcases he with h | h | h
      · omega
      · omega
      · exact h
    rw [if_pos h2]
    cases b with
    | true => exact ⟨Or.inr (Or.inr (Rc.hi hr h3)), by simp only [if_true]; omega, fun x hx => by rw [val_step g x ha h3, h2, if_pos hx]; rfl⟩
    | false => exact ⟨Or.inr (Or.inr (Rc.lo hr h3)), by simp; omega, fun x hx => by rw [val_step g x ha h3, h2, if_neg (by simp [hx])]; rfl⟩
  · rw [if_neg h2]
    exact ⟨he, by omega, fun x _ => rfl⟩
theorem half_ok {vars : Nat} {ns : List T3} {sp : List Int} (g : Good vars ns sp) {O : List Int} (hO : ∀ i ∈ O, alive ns i) {top : Int} (ht : top < vars) (b : Bool) {q : T3} (hq : QOk ns O q) (hl : LB ns q top) :
    QOk ns O (halfF ns top b q) ∧ LB ns (halfF ns top b q) (top + 1) ∧ ∀ x, x top = b → qval (val vars ns x) q = qval (val vars ns x) (halfF ns top b q) := by
  obtain ⟨f1, f2, f3⟩ := side_ok g hO ht b hq.f hl.f
  obtain ⟨h1, h2, h3⟩ := side_ok g hO ht b hq.h hl.h
  have gg : (sideF ns top b q.2.1 = -1 ∨ Rz ns O (sideF ns top b q.2.1)) ∧ (sideF ns top b q.2.1 = -1 ∨ top + 1 ≤ (at3 ns (sideF ns top b q.2.1)).1) ∧ ∀ x, x top = b → (if q.2.1 = -1 then !val vars ns x q.2.2 else val vars ns x q.2.1) = (if sideF ns top b q.2.1 = -1 then !val vars ns x (sideF ns top b q.2.2) else val vars ns x (sideF ns top b q.2.1)) := by
    by_cases e : q.2.1 = -1
    · have e2 : sideF ns top b q.2.1 = -1 := by unfold sideF; rw [if_pos e]; exact e
      exact ⟨Or.inl e2, Or.inl e2, fun x hx => by rw [if_pos e, if_pos e2, h3 x hx]⟩
    · have hg := hq.g.resolve_left e
      obtain ⟨g1, g2, g3⟩ := side_ok g hO ht b hg (hl.g.resolve_left e)
      have e2 : sideF ns top b q.2.1 ≠ -1 := by have := rz_nn g hO g1; omega
      exact ⟨Or.inr g1, Or.inr g2, fun x hx => by rw [if_neg e, if_neg e2, g3 x hx]⟩
  refine ⟨⟨f1, gg.1, h1⟩, ⟨f2, gg.2.1, h2⟩, fun x hx => ?_⟩
  unfold qval
  show _ = if val vars ns x (sideF ns top b q.1) = true then (if sideF ns top b q.2.1 = -1 then !val vars ns x (sideF ns top b q.2.2) else val vars ns x (sideF ns top b q.2.1)) else val vars ns x (sideF ns top b q.2.2)
  rw [f3 x hx, gg.2.2 x hx, h3 x hx]
theorem QOk.kp {ns ns' : List T3} {A O : List Int} (h : Kp ns ns' A) (hO : ∀ i ∈ O, Rc ns A i) {q : T3} (hq : QOk ns O q) : QOk ns' O q := ⟨hq.f.kp h hO, hq.g.imp id (Rz.kp h hO), hq.h.kp h hO⟩
theorem QOk.at' {vars : Nat} {ns ns' : List T3} {sp sp' A O : List Int} (g : Good vars ns sp) (g' : Good vars ns' sp') (h : Kp ns ns' A) (hO : ∀ i ∈ O, Rc ns A i) {q : T3} (hq : QOk ns O q) :
    at3 ns' q.1 = at3 ns q.1 ∧ (q.2.1 = -1 ∨ at3 ns' q.2.1 = at3 ns q.2.1) ∧ at3 ns' q.2.2 = at3 ns q.2.2 :=
  ⟨h.atz g g' (hq.f.mono hO), hq.g.imp id (fun r => h.atz g g' (r.mono hO)), h.atz g g' (hq.h.mono hO)⟩
theorem QOk.lb {vars : Nat} {ns ns' : List T3} {sp sp' A O : List Int} (g : Good vars ns sp) (g' : Good vars ns' sp') (h : Kp ns ns' A) (hO : ∀ i ∈ O, Rc ns A i) {q : T3} (hq : QOk ns O q) (t : Int) : LB ns' q t ↔ LB ns q t := by
  obtain ⟨e1, e2, e3⟩ := hq.at' g g' h hO
  constructor
  · intro hl
    refine ⟨by rw [← e1]; exact hl.f, ?_, by rw [← e3]; exact hl.h⟩
    rcases e2 with e | e
    · exact Or.inl e
    · rw [← e]; exact hl.g
  · intro hl
    refine ⟨by rw [e1]; exact hl.f, ?_, by rw [e3]; exact hl.h⟩
    rcases e2 with e | e
    · exact Or.inl e
    · rw [e]; exact hl.g
theorem QOk.val {vars : Nat} {ns ns' : List T3} {A O : List Int} (h : Kp ns ns' A) (hO : ∀ i ∈ O, Rc ns A i) {q : T3} (hq : QOk ns O q) (x : Int → Bool) : qval (val vars ns' x) q = qval (Go.Proofs.YtkmkmgnfolpphaaDoor.val vars ns x) q := by
  unfold qval
  rw [h.valz x (hq.f.mono hO), h.valz x (hq.h.mono hO)]
  rcases hq.g with e | e
  · rw [if_pos e, if_pos e]
  · rw [h.valz x (e.mono hO)]
theorem RsOk.kp {vars : Nat} {ns ns' : List T3} {sp sp' A O : List Int} {R : Rs} (g : Good vars ns sp) (g' : Good vars ns' sp') (h : Kp ns ns' A) (hA : ∀ i ∈ A, alive ns i) (hO : ∀ i ∈ O, Rc ns A i) (hR : ∀ i ∈ valsR R, Rc ns A i) (k : RsOk vars ns O R) : RsOk vars ns' O R := by
  intro p hp
  obtain ⟨k1, k2, k3, k4⟩ := k p hp
  have hr : Rc ns A p.2 := hR _ (List.mem_map.2 ⟨p, hp, rfl⟩)
  refine ⟨k1.kp h hO, h.alive g hA hr, fun x => ?_, fun t ht => ?_⟩
  · rw [h.val x hr, k1.val h hO x]; exact k3 x
  · rw [h.at' _ hr]
    exact k4 t ((k1.lb g g' h hO t).1 ht)
theorem lookR_some {R : Rs} {q : T3} {f : Int} (h : lookR R q = some f) : (q, f) ∈ R := by
  unfold lookR at h
  obtain ⟨p, hp, rfl⟩ := Option.map_eq_some_iff.1 h
  have h1 := List.mem_of_find?_eq_some hp
  have h2 := List.find?_some hp
  obtain rfl : p.1 = q := of_decide_eq_true h2
  exact h1
theorem top_lb {vars : Nat} {ns : List T3} {q : T3} (h1 : q.1 ≠ -1) (h3 : q.2.2 ≠ -1) : LB ns q (topF vars ns q) ∧ topF vars ns q ≤ vars := by
  unfold topF varOf
  rw [if_neg h1, if_neg h3]
  refine ⟨⟨by omega, ?_, by omega⟩, by omega⟩
  by_cases e : q.2.1 = -1
  · exact Or.inl e
  · right; rw [if_neg e]; omega
theorem top_ge {vars : Nat} {ns : List T3} {q : T3} (h1 : q.1 ≠ -1) (h3 : q.2.2 ≠ -1) {t : Int} (ht : t ≤ vars) (hl : LB ns q t) : t ≤ topF vars ns q := by
  unfold topF varOf
  rw [if_neg h1, if_neg h3]
  have := hl.f
  have := hl.h
  rcases hl.g with e | e
  · rw [if_pos e]; omega
  · split <;> omega
theorem plain_qok {ns : List T3} {O : List Int} {q : T3} (hq : QOk ns O q) : QOk ns O (plainF q) := by
  obtain ⟨h1, h2, h3⟩ := plain_all (p := Rz ns O) (Or.inl rfl) (Or.inr (Or.inl rfl)) hq.f hq.g hq.h
  exact ⟨h1, h2, h3⟩
theorem plain_lb {vars : Nat} {ns : List T3} {sp : List Int} (g : Good vars ns sp) {q : T3} {t : Int} (ht : t ≤ vars) (hq : LB ns q t) : LB ns (plainF q) t := by
  obtain ⟨h1, h2, h3⟩ := plain_all (p := fun i => t ≤ (at3 ns i).1) (by rw [g.z]; exact ht) (by rw [g.o]; exact ht) hq.f hq.g hq.h
  exact ⟨h1, h2, h3⟩
/-- What solve leaves. -/
structure SOk (vars : Nat) (P O : List Int) (S : St) (R : Rs) (q : T3) (r : Option Int) (S' : St) (R' : Rs) : Prop where
  good : Good vars S'.ns S'.sp
  kp : Kp S.ns S'.ns (P ++ valsR R ++ O)
  rs : RsOk vars S'.ns O R'
  sub : ∀ i ∈ valsR R, i ∈ valsR R'
  gone : S.gone ≤ S'.gone
  res : ∀ f, r = some f → alive S'.ns f ∧ Rz S'.ns (valsR R' ++ O) f ∧ (∀ x, val vars S'.ns x f = qval (val vars S.ns x) q) ∧ ∀ t, t ≤ (vars : Int) → LB S.ns q t → t ≤ (at3 S'.ns f).1
  news : ∀ t, t ≤ (vars : Int) → LB S.ns q t → ∀ p ∈ R', p ∈ R ∨ LB S'.ns p.1 t
theorem LB.mono {ns : List T3} {q : T3} {t t' : Int} (h : LB ns q t) (ht : t' ≤ t) : LB ns q t' := ⟨Int.le_trans ht h.f, h.g.imp id (Int.le_trans ht), Int.le_trans ht h.h⟩
theorem val_01 (vars : Nat) (ns : List T3) (x : Int → Bool) : val vars ns x 0 = false ∧ val vars ns x 1 = true := ⟨by rw [val_le (by decide)]; rfl, by rw [val_le (by decide)]; rfl⟩
theorem solve_ok {vars most : Nat} {P O : List Int} : ∀ (n : Nat) (S : St) (R : Rs) (q : T3) (t : Int), Good vars S.ns S.sp → (∀ i ∈ P ++ valsR R ++ O, alive S.ns i) → RsOk vars S.ns O R → QOk S.ns O q → LB S.ns q t → 0 ≤ t → t ≤ vars → (vars : Int) - t < n →
    SOk vars P O S R q (solveF vars most P O n S R q).1 (solveF vars most P O n S R q).2.1 (solveF vars most P O n S R q).2.2 := by
  intro n
  induction n with
  | zero => intro S R q t _ _ _ _ _ _ h1 h2; omega
  | succ n ih =>
    intro S R q t g hA hR hq hl h0 htv hn
    have hO : ∀ i ∈ O, alive S.ns i := fun i hi => hA i (by simp [hi])
    have q1 := rz_nn g hO hq.f
    have q3 := rz_nn g hO hq.h
    have pq := plain_qok hq
    have pl := plain_lb g htv hl
    have pv : ∀ x, qval (val vars S.ns x) (plainF q) = qval (val vars S.ns x) q := fun x => plain_val (val_01 _ _ _).1 (val_01 _ _ _).2 q (by omega)
    have po := plain_op (q := q) (by omega) (by omega)
    have p1 := rz_nn g hO pq.f
    have p3 := rz_nn g hO pq.h
    have plq : ∀ t', t' ≤ (vars : Int) → LB S.ns q t' → LB S.ns (plainF q) t' := fun t' h1 h2 => plain_lb g h1 h2
    rw [solveF]
    generalize plainF q = p at pq pl pv po p1 p3 plq ⊢
    cases hk : knownF p with
    | some f =>
      dsimp only
      refine ⟨g, Kp.refl _ _, hR, fun i h => h, Nat.le_refl _, fun f' hf' => ?_, fun _ _ _ _ hp => Or.inl hp⟩
      cases hf'
      have hf : Rz S.ns O f := by
        rcases (known_val (val_01 vars S.ns (fun _ => false)).1 (val_01 vars S.ns (fun _ => false)).2 (by omega) po hk).2 with e | ⟨e, e2⟩
        · rw [e]; exact pq.h
        · rw [e]; exact pq.g.resolve_left e2
      refine ⟨hf.alive g hO, hf.mono (fun i hi => Rc.base (by simp [hi])), fun x => ?_, fun t' h1 h2 => ?_⟩
      · rw [← pv x]; exact (known_val (val_01 _ _ _).1 (val_01 _ _ _).2 (by omega) po hk).1
      · have h3 := plq t' h1 h2
        rcases (known_val (val_01 vars S.ns (fun _ => false)).1 (val_01 vars S.ns (fun _ => false)).2 (by omega) po hk).2 with e | ⟨e, e2⟩
        · rw [e]; exact h3.h
        · rw [e]; exact h3.g.resolve_left e2
    | none =>
      dsimp only
      cases hlk : lookR R p with
      | some f =>
        dsimp only
        refine ⟨g, Kp.refl _ _, hR, fun i h => h, Nat.le_refl _, fun f' hf' => ?_, fun _ _ _ _ hp => Or.inl hp⟩
        cases hf'
        have hm := lookR_some hlk
        obtain ⟨_, k2, k3, k4⟩ := hR _ hm
        refine ⟨k2, Or.inr (Or.inr (Rc.base (List.mem_append_left _ (List.mem_map.2 ⟨_, hm, rfl⟩)))), fun x => ?_, fun t' h1 h2 => k4 t' (plq t' h1 h2)⟩
        rw [← pv x]; exact k3 x
      | none =>
        dsimp only
        obtain ⟨kn1, kn2, -⟩ := known_none hk
        obtain ⟨tl, tv⟩ := top_lb (vars := vars) (ns := S.ns) (q := p) (by omega) (by omega)
        have tt := top_ge (vars := vars) (ns := S.ns) (q := p) (by omega) (by omega) htv pl
        have tge : ∀ t', t' ≤ (vars : Int) → LB S.ns p t' → t' ≤ topF vars S.ns p := fun t' h1 h2 => top_ge (by omega) (by omega) h1 h2
        have tlt : topF vars S.ns p < vars := by
          have a1 := pq.f.alive g hO
          have := (g.nd p.1 (by omega) a1).2.1
          have := tl.f
          omega
        generalize topF vars S.ns p = top at tl tv tt tge tlt ⊢
        obtain ⟨c1, c2, c3⟩ := half_ok g hO tlt false pq tl
        have s1 := ih S R (halfF S.ns top false p) (top + 1) g hA hR c1 c2 (by omega) (by omega) (by omega)
        obtain ⟨r1, S1, R1, e1⟩ : ∃ r1 S1 R1, solveF vars most P O n S R (halfF S.ns top false p) = (r1, S1, R1) := ⟨_, _, _, rfl⟩
        rw [e1] at s1 ⊢
        dsimp only at s1
        have hOA : ∀ i ∈ O, Rc S.ns (P ++ valsR R ++ O) i := fun i hi => Rc.base (by simp [hi])
        have n1 : ∀ t', t' ≤ (vars : Int) → LB S.ns q t' → ∀ p' ∈ R1, p' ∈ R ∨ LB S1.ns p'.1 t' := fun t' h1 h2 p' hp' => by
          have h3 := tge t' h1 (plq t' h1 h2)
          exact (s1.news (top + 1) (by omega) c2 p' hp').imp id (fun q => q.mono (by omega))
        cases r1 with
        | none => exact ⟨s1.good, s1.kp, s1.rs, s1.sub, s1.gone, (fun f hf => nomatch hf), n1⟩
        | some no =>
          dsimp only
          obtain ⟨no1, no2, no3, no4⟩ := s1.res no rfl
          have hal1 : ∀ i ∈ P ++ valsR R ++ O, alive S1.ns i := fun i hi => s1.kp.alive g hA (Rc.base hi)
          have hA1 : ∀ i ∈ P ++ valsR R1 ++ O, alive S1.ns i := fun i hi => by
            simp only [List.mem_append] at hi
            rcases hi with (h | h) | h
            · exact hal1 i (by simp [h])
            · obtain ⟨p', hp', rfl⟩ := List.mem_map.1 h
              exact (s1.rs p' hp').2.1
            · exact hal1 i (by simp [h])
          have hO1 : ∀ i ∈ O, alive S1.ns i := fun i hi => hA1 i (by simp [hi])
          have pq1 := pq.kp s1.kp hOA
          have tl1 := (pq.lb g s1.good s1.kp hOA top).2 tl
          have pv1 : ∀ x, qval (val vars S1.ns x) p = qval (val vars S.ns x) p := fun x => pq.val s1.kp hOA x
          obtain ⟨d1, d2, d3⟩ := half_ok s1.good hO1 tlt true pq1 tl1
          have s2 := ih S1 R1 (halfF S1.ns top true p) (top + 1) s1.good hA1 s1.rs d1 d2 (by omega) (by omega) (by omega)
          obtain ⟨r2, S2, R2, e2⟩ : ∃ r2 S2 R2, solveF vars most P O n S1 R1 (halfF S1.ns top true p) = (r2, S2, R2) := ⟨_, _, _, rfl⟩
          rw [e2] at s2 ⊢
          dsimp only at s2
          have hAA1 : ∀ i ∈ P ++ valsR R ++ O, Rc S1.ns (P ++ valsR R1 ++ O) i := fun i hi => by
            simp only [List.mem_append] at hi
            rcases hi with (h | h) | h
            · exact Rc.base (by simp [h])
            · exact Rc.base (by simp [s1.sub i h])
            · exact Rc.base (by simp [h])
          have k02 : Kp S.ns S2.ns (P ++ valsR R ++ O) := s1.kp.trans s2.kp hAA1
          have hOA1 : ∀ i ∈ O, Rc S1.ns (P ++ valsR R1 ++ O) i := fun i hi => Rc.base (by simp [hi])
          have n2 : ∀ t', t' ≤ (vars : Int) → LB S.ns q t' → ∀ p' ∈ R2, p' ∈ R ∨ LB S2.ns p'.1 t' := fun t' h1 h2 p' hp' => by
            have h3 := tge t' h1 (plq t' h1 h2)
            rcases s2.news (top + 1) (by omega) d2 p' hp' with q | q
            · exact (n1 t' h1 h2 p' q).imp id (fun z => ((s1.rs p' q).1.lb s1.good s2.good s2.kp hOA1 t').2 z)
            · exact Or.inr (q.mono (by omega))
          cases r2 with
          | none => exact ⟨s2.good, k02, s2.rs, fun i h => s2.sub i (s1.sub i h), Nat.le_trans s1.gone s2.gone, (fun f hf => nomatch hf), n2⟩
          | some yes =>
            dsimp only
            obtain ⟨ye1, ye2, ye3, ye4⟩ := s2.res yes rfl
            have hal2 : ∀ i ∈ P ++ valsR R1 ++ O, alive S2.ns i := fun i hi => s2.kp.alive s1.good hA1 (Rc.base hi)
            have hA2 : ∀ i ∈ P ++ valsR R2 ++ O, alive S2.ns i := fun i hi => by
              simp only [List.mem_append] at hi
              rcases hi with (h | h) | h
              · exact hal2 i (by simp [h])
              · obtain ⟨p', hp', rfl⟩ := List.mem_map.1 h
                exact (s2.rs p' hp').2.1
              · exact hal2 i (by simp [h])
            have hno : Rz S1.ns (P ++ valsR R1 ++ O) no := no2.mono (fun i hi => Rc.base (by simp only [List.mem_append] at hi ⊢; rcases hi with h | h <;> simp [h]))
            have hno2 : Rz S2.ns (P ++ valsR R2 ++ O) no := by
              refine Rz.mono (fun i hi => ?_) (no2.kp s2.kp (fun i hi => Rc.base (by simp only [List.mem_append] at hi ⊢; rcases hi with h | h <;> simp [h])))
              simp only [List.mem_append] at hi
              rcases hi with h | h
              · exact Rc.base (by simp [s2.sub i h])
              · exact Rc.base (by simp [h])
            have hye2 : Rz S2.ns (P ++ valsR R2 ++ O) yes := ye2.mono (fun i hi => Rc.base (by simp only [List.mem_append] at hi ⊢; rcases hi with h | h <;> simp [h]))
            have vno : top < (at3 S2.ns no).1 := by
              rw [s2.kp.atz s1.good s2.good hno]
              have := no4 (top + 1) (by omega) c2
              omega
            have vye : top < (at3 S2.ns yes).1 := by
              have := ye4 (top + 1) (by omega) d2
              omega
            have nk := nodeF_ok (most := most) s2.good hA2 ⟨by omega, tlt⟩ hno2 hye2 vno vye
            have eA : P ++ R2.map (·.2) ++ O = P ++ valsR R2 ++ O := rfl
            rw [eA]
            obtain ⟨r3, S3, e3⟩ : ∃ r3 S3, nodeF most S2 (P ++ valsR R2 ++ O) top no yes = (r3, S3) := ⟨_, _, rfl⟩
            rw [e3] at nk ⊢
            dsimp only at nk
            have hAA2 : ∀ i ∈ P ++ valsR R ++ O, Rc S2.ns (P ++ valsR R2 ++ O) i := fun i hi => by
              simp only [List.mem_append] at hi
              rcases hi with (h | h) | h
              · exact Rc.base (by simp [h])
              · exact Rc.base (by simp [s2.sub i (s1.sub i h)])
              · exact Rc.base (by simp [h])
            have k03 : Kp S.ns S3.ns (P ++ valsR R ++ O) := k02.trans nk.kp hAA2
            have hOA2 : ∀ i ∈ O, Rc S2.ns (P ++ valsR R2 ++ O) i := fun i hi => Rc.base (by simp [hi])
            have rs3 : RsOk vars S3.ns O R2 := s2.rs.kp s2.good nk.good nk.kp hA2 hOA2 (fun i hi => Rc.base (by simp [hi]))
            have n3 : ∀ t', t' ≤ (vars : Int) → LB S.ns q t' → ∀ p' ∈ R2, p' ∈ R ∨ LB S3.ns p'.1 t' := fun t' h1 h2 p' hp' =>
              (n2 t' h1 h2 p' hp').imp id (fun z => ((s2.rs p' hp').1.lb s2.good nk.good nk.kp hOA2 t').2 z)
            cases r3 with
            | none => exact ⟨nk.good, k03, rs3, fun i h => s2.sub i (s1.sub i h), Nat.le_trans (Nat.le_trans s1.gone s2.gone) nk.gone, (fun f hf => nomatch hf), n3⟩
            | some f =>
              dsimp only
              obtain ⟨f1, f2, f3⟩ := nk.res f rfl
              have fv : ∀ x, val vars S3.ns x f = qval (val vars S.ns x) p := fun x => by
                rw [f3 x, nk.kp.valz x hye2, nk.kp.valz x hno2, ye3 x, s2.kp.valz x hno, no3 x]
                cases hx : x top with
                | true => rw [if_pos rfl, ← d3 x hx, pv1 x]
                | false => rw [if_neg (by simp), ← c3 x hx]
              have pq3 : QOk S3.ns O p := (pq1.kp s2.kp hOA1).kp nk.kp hOA2
              have k13 : ∀ x, qval (val vars S3.ns x) p = qval (val vars S.ns x) p := fun x => pq.val k03 hOA x
              have fl : ∀ t', LB S3.ns p t' → t' ≤ (at3 S3.ns f).1 := fun t' ht' => by
                have h1 := (pq.lb g nk.good k03 hOA t').1 ht'
                by_cases h2 : t' ≤ (vars : Int)
                · exact Int.le_trans (tge t' h2 h1) f2
                · have := h1.f
                  have := (g.var (pq.f.alive g hO)).2
                  omega
              refine ⟨nk.good, k03, fun p' hp' => ?_, fun i h => ?_, Nat.le_trans (Nat.le_trans s1.gone s2.gone) nk.gone, fun f' hf' => ?_, fun t' h1 h2 p' hp' => ?_⟩
              · rcases List.mem_append.1 hp' with h | h
                · exact rs3 p' h
                · obtain rfl := List.mem_singleton.1 h
                  exact ⟨pq3, f1, fun x => by rw [k13 x]; exact fv x, fl⟩
              · have := s2.sub i (s1.sub i h)
                simp only [valsR, List.map_append, List.mem_append] at this ⊢
                exact Or.inl this
              · cases hf'
                refine ⟨f1, Or.inr (Or.inr (Rc.base (by simp [valsR]))), fun x => by rw [fv x, pv x], fun t' h1 h2 => Int.le_trans (tge t' h1 (plq t' h1 h2)) f2⟩
              · rcases List.mem_append.1 hp' with h | h
                · exact n3 t' h1 h2 p' h
                · obtain rfl := List.mem_singleton.1 h
                  exact Or.inr ((pq.lb g nk.good k03 hOA t').2 (plq t' h1 h2))
end Go.Proofs.YtkmkmgnfolpphaaDoor
namespace Go.Proofs.YtkmkmgnfolpphaaDoor

theorem lookR_none {R : Rs} {q : T3} (h : lookR R q = none) : ∀ x ∈ R, x.1 ≠ q := by
  intro x hx e
  unfold lookR at h
  have h1 := Option.map_eq_none_iff.1 h
  have := List.find?_eq_none.1 h1 x hx
  simp [e] at this
theorem nodup_at {R : Rs} (h : (R.map (·.1)).Nodup) {a b : T3 × Int} (ha : a ∈ R) (hb : b ∈ R) (e : a.1 = b.1) : a = b := by
  induction R with
  | nil => cases ha
  | cons c R ih =>
    rw [List.map_cons, List.nodup_cons] at h
    rcases List.mem_cons.1 ha with q1 | q1 <;> rcases List.mem_cons.1 hb with q2 | q2
    · rw [q1, q2]
    · rw [q1] at e; exact absurd (List.mem_map.2 ⟨b, q2, e.symm⟩) h.1
    · rw [q2] at e; exact absurd (List.mem_map.2 ⟨a, q1, e⟩) h.1
    · exact ih h.2 q1 q2
section
variable {vars most n : Nat} {P O : List Int} {S S1 S2 : St} {R R1 R2 : Rs} {q p : T3} {t : Int}
theorem mid1 (g : Good vars S.ns S.sp) (hA : ∀ i ∈ P ++ valsR R ++ O, alive S.ns i) (hq : QOk S.ns O q) (hl : LB S.ns q t) (h0 : 0 ≤ t) (htv : t ≤ vars) (hn : (vars : Int) - t < (n + 1 : Nat)) (hp : p = plainF q) (hk : knownF p = none) :
    QOk S.ns O p ∧ 0 ≤ topF vars S.ns p ∧ topF vars S.ns p < vars ∧ LB S.ns p (topF vars S.ns p) ∧ QOk S.ns O (halfF S.ns (topF vars S.ns p) false p) ∧ LB S.ns (halfF S.ns (topF vars S.ns p) false p) (topF vars S.ns p + 1) ∧ (vars : Int) - (topF vars S.ns p + 1) < n := by
  have hO : ∀ i ∈ O, alive S.ns i := fun i hi => hA i (by simp [hi])
  have pq : QOk S.ns O p := by rw [hp]; exact plain_qok hq
  have pl : LB S.ns p t := by rw [hp]; exact plain_lb g htv hl
  have p1 := rz_nn g hO pq.f
  have p3 := rz_nn g hO pq.h
  obtain ⟨kn1, kn2, -⟩ := known_none hk
  obtain ⟨tl, tv⟩ := top_lb (vars := vars) (ns := S.ns) (q := p) (by omega) (by omega)
  have tt := top_ge (vars := vars) (ns := S.ns) (q := p) (by omega) (by omega) htv pl
  have tlt : topF vars S.ns p < vars := by
    have a1 := pq.f.alive g hO
    have := (g.nd p.1 (by omega) a1).2.1
    have := tl.f
    omega
  obtain ⟨c1, c2, -⟩ := half_ok g hO tlt false pq tl
  exact ⟨pq, by omega, tlt, tl, c1, c2, by omega⟩
theorem mid2 (g : Good vars S.ns S.sp) (hA : ∀ i ∈ P ++ valsR R ++ O, alive S.ns i) (pq : QOk S.ns O p) (tl : LB S.ns p (topF vars S.ns p)) (tlt : topF vars S.ns p < vars) {h1 : T3} {no : Int} (s1 : SOk vars P O S R h1 (some no) S1 R1) :
    (∀ i ∈ P ++ valsR R1 ++ O, alive S1.ns i) ∧ QOk S1.ns O p ∧ QOk S1.ns O (halfF S1.ns (topF vars S.ns p) true p) ∧ LB S1.ns (halfF S1.ns (topF vars S.ns p) true p) (topF vars S.ns p + 1) := by
  have hOA : ∀ i ∈ O, Rc S.ns (P ++ valsR R ++ O) i := fun i hi => Rc.base (by simp [hi])
  have hal1 : ∀ i ∈ P ++ valsR R ++ O, alive S1.ns i := fun i hi => s1.kp.alive g hA (Rc.base hi)
  have hA1 : ∀ i ∈ P ++ valsR R1 ++ O, alive S1.ns i := fun i hi => by
    simp only [List.mem_append] at hi
    rcases hi with (h | h) | h
    · exact hal1 i (by simp [h])
    · obtain ⟨p', hp', rfl⟩ := List.mem_map.1 h
      exact (s1.rs p' hp').2.1
    · exact hal1 i (by simp [h])
  have hO1 : ∀ i ∈ O, alive S1.ns i := fun i hi => hA1 i (by simp [hi])
  have pq1 := pq.kp s1.kp hOA
  have tl1 := (pq.lb g s1.good s1.kp hOA _).2 tl
  obtain ⟨d1, d2, -⟩ := half_ok s1.good hO1 tlt true pq1 tl1
  exact ⟨hA1, pq1, d1, d2⟩
theorem mid3 (g : Good vars S.ns S.sp) (hA : ∀ i ∈ P ++ valsR R ++ O, alive S.ns i) (pq : QOk S.ns O p) (tlt : topF vars S.ns p < vars) {no yes : Int} (c2 : LB S.ns (halfF S.ns (topF vars S.ns p) false p) (topF vars S.ns p + 1)) (s1 : SOk vars P O S R (halfF S.ns (topF vars S.ns p) false p) (some no) S1 R1)
    (hA1 : ∀ i ∈ P ++ valsR R1 ++ O, alive S1.ns i) (d2 : LB S1.ns (halfF S1.ns (topF vars S.ns p) true p) (topF vars S.ns p + 1)) (s2 : SOk vars P O S1 R1 (halfF S1.ns (topF vars S.ns p) true p) (some yes) S2 R2) :
    (∀ i ∈ P ++ valsR R2 ++ O, alive S2.ns i) ∧ Rz S2.ns (P ++ valsR R2 ++ O) no ∧ Rz S2.ns (P ++ valsR R2 ++ O) yes ∧ topF vars S.ns p < (at3 S2.ns no).1 ∧ topF vars S.ns p < (at3 S2.ns yes).1 ∧ (lookR R p = none → ∀ p' ∈ R2, p'.1 ≠ p) := by
  have hOA : ∀ i ∈ O, Rc S.ns (P ++ valsR R ++ O) i := fun i hi => Rc.base (by simp [hi])
  have hOA1 : ∀ i ∈ O, Rc S1.ns (P ++ valsR R1 ++ O) i := fun i hi => Rc.base (by simp [hi])
  obtain ⟨no1, no2, no3, no4⟩ := s1.res no rfl
  obtain ⟨ye1, ye2, ye3, ye4⟩ := s2.res yes rfl
  have hal2 : ∀ i ∈ P ++ valsR R1 ++ O, alive S2.ns i := fun i hi => s2.kp.alive s1.good hA1 (Rc.base hi)
  have hA2 : ∀ i ∈ P ++ valsR R2 ++ O, alive S2.ns i := fun i hi => by
    simp only [List.mem_append] at hi
    rcases hi with (h | h) | h
    · exact hal2 i (by simp [h])
    · obtain ⟨p', hp', rfl⟩ := List.mem_map.1 h
      exact (s2.rs p' hp').2.1
    · exact hal2 i (by simp [h])
  have hno : Rz S1.ns (P ++ valsR R1 ++ O) no := no2.mono (fun i hi => Rc.base (by simp only [List.mem_append] at hi ⊢; rcases hi with h | h <;> simp [h]))
  have hno2 : Rz S2.ns (P ++ valsR R2 ++ O) no := by
    refine Rz.mono (fun i hi => ?_) (no2.kp s2.kp (fun i hi => Rc.base (by simp only [List.mem_append] at hi ⊢; rcases hi with h | h <;> simp [h])))
    simp only [List.mem_append] at hi
    rcases hi with h | h
    · exact Rc.base (by simp [s2.sub i h])
    · exact Rc.base (by simp [h])
  have hye2 : Rz S2.ns (P ++ valsR R2 ++ O) yes := ye2.mono (fun i hi => Rc.base (by simp only [List.mem_append] at hi ⊢; rcases hi with h | h <;> simp [h]))
  refine ⟨hA2, hno2, hye2, ?_, ?_, fun hlk p' hp' e => ?_⟩
  · rw [s2.kp.atz s1.good s2.good hno]
    have := no4 (topF vars S.ns p + 1) (by omega) c2
    omega
  · have := ye4 (topF vars S.ns p + 1) (by omega) d2
    omega
  · have hO : ∀ i ∈ O, alive S.ns i := fun i hi => hA i (by simp [hi])
    have p1 := rz_nn g hO pq.f
    have p3 := rz_nn g hO pq.h
    have pq1 := pq.kp s1.kp hOA
    have fin : ¬ LB S1.ns p (topF vars S.ns p + 1) := fun h => by
      have h1 := (pq.lb g s1.good s1.kp hOA _).1 h
      have := top_ge (vars := vars) (ns := S.ns) (q := p) (by omega) (by omega) (by omega) h1
      omega
    rcases s2.news (topF vars S.ns p + 1) (by omega) d2 p' hp' with q | q
    · rcases s1.news (topF vars S.ns p + 1) (by omega) c2 p' q with z | z
      · exact lookR_none hlk p' z e
      · rw [e] at z; exact fin z
    · rw [e] at q
      exact fin ((pq1.lb s1.good s2.good s2.kp hOA1 _).1 q)
end
/-- Where nothing went in all, nothing went on the way. -/
theorem nodeF_gone (most : Nat) (S : St) (A : List Int) (top no yes : Int) : S.gone ≤ (nodeF most S A top no yes).2.gone := by
  have ha : ∀ (T : St) (n : T3), (addF T n).2.gone = T.gone := fun T n => by unfold addF; split <;> rfl
  unfold nodeF
  split
  · exact Nat.le_refl _
  · split
    · exact Nat.le_refl _
    · split
      · split
        · exact Nat.le_succ _
        · rw [ha]; exact Nat.le_succ _
      · rw [ha]; exact Nat.le_refl _
theorem solveF_gone (vars most : Nat) (P O : List Int) : ∀ (n : Nat) (S : St) (R : Rs) (q : T3), S.gone ≤ (solveF vars most P O n S R q).2.1.gone := by
  intro n
  induction n with
  | zero => intro S R q; exact Nat.le_refl _
  | succ n ih =>
    intro S R q
    rw [solveF]
    generalize plainF q = p
    cases knownF p with
    | some f => exact Nat.le_refl _
    | none =>
      dsimp only
      cases lookR R p with
      | some f => exact Nat.le_refl _
      | none =>
        dsimp only
        have h1 := ih S R (halfF S.ns (topF vars S.ns p) false p)
        obtain ⟨r1, S1, R1, e1⟩ : ∃ r1 S1 R1, solveF vars most P O n S R (halfF S.ns (topF vars S.ns p) false p) = (r1, S1, R1) := ⟨_, _, _, rfl⟩
        rw [e1] at h1 ⊢
        cases r1 with
        | none => exact h1
        | some no =>
          dsimp only
          have h2 := ih S1 R1 (halfF S1.ns (topF vars S.ns p) true p)
          obtain ⟨r2, S2, R2, e2⟩ : ∃ r2 S2 R2, solveF vars most P O n S1 R1 (halfF S1.ns (topF vars S.ns p) true p) = (r2, S2, R2) := ⟨_, _, _, rfl⟩
          rw [e2] at h2 ⊢
          cases r2 with
          | none => exact Nat.le_trans h1 h2
          | some yes =>
            dsimp only
            have h3 := nodeF_gone most S2 (P ++ R2.map (·.2) ++ O) (topF vars S.ns p) no yes
            obtain ⟨r3, S3, e3⟩ : ∃ r3 S3, nodeF most S2 (P ++ R2.map (·.2) ++ O) (topF vars S.ns p) no yes = (r3, S3) := ⟨_, _, rfl⟩
            rw [e3] at h3 ⊢
            cases r3 with
            | none => exact Nat.le_trans (Nat.le_trans h1 h2) h3
            | some f => exact Nat.le_trans (Nat.le_trans h1 h2) h3
end Go.Proofs.YtkmkmgnfolpphaaDoor
namespace Go.Proofs.YtkmkmgnfolpphaaDoor

/-- What is met, and in which order. -/
structure Vs where
  me : List Bool
  od : List Int
def visF (ns : List T3) : Nat → Vs → Int → Vs
  | 0, s, _ => s
  | n + 1, s, f =>
    if f ≤ 1 ∨ s.me.getD f.toNat false = true then s
    else
      ⟨(visF ns n (visF ns n ⟨s.me.set f.toNat true, s.od⟩ (at3 ns f).2.1) (at3 ns f).2.2).me,
       (visF ns n (visF ns n ⟨s.me.set f.toNat true, s.od⟩ (at3 ns f).2.1) (at3 ns f).2.2).od ++ [f]⟩
structure VI (ns : List T3) (G : Int → Prop) (s : Vs) : Prop where
  len : s.me.length = ns.length
  nd : s.od.Nodup
  mem : ∀ i ∈ s.od, 2 ≤ i ∧ alive ns i ∧ s.me.getD i.toNat false = true
  me : ∀ i : Nat, s.me.getD i false = true → (i : Int) ∈ s.od ∨ G i
  kid : ∀ a i b, s.od = a ++ i :: b → ((at3 ns i).2.1 ≤ 1 ∨ (at3 ns i).2.1 ∈ a) ∧ ((at3 ns i).2.2 ≤ 1 ∨ (at3 ns i).2.2 ∈ a)
theorem rc_var {vars : Nat} {ns : List T3} {sp : List Int} (g : Good vars ns sp) {f : Int} (hf : alive ns f) {i : Int} (h : Rc ns [f] i) : (at3 ns f).1 ≤ (at3 ns i).1 := by
  have hA : ∀ i ∈ [f], Go.Proofs.YtkmkmgnfolpphaaDoor.alive ns i := fun i hi => by rw [List.mem_singleton.1 hi]; exact hf
  induction h with
  | base h => rw [List.mem_singleton.1 h]; exact Int.le_refl _
  | lo h h2 ih => have := (g.nd _ h2 (h.alive g hA)).2.2.2.2.2.1; omega
  | hi h h2 ih => have := (g.nd _ h2 (h.alive g hA)).2.2.2.2.2.2; omega
theorem getD_set {l : List Bool} {j i : Nat} (hj : j < l.length) : (l.set j true).getD i false = if i = j then true else l.getD i false := by
  rw [List.getD_eq_getElem?_getD, List.getElem?_set, List.getD_eq_getElem?_getD]
  by_cases e : i = j
  · subst e; simp [hj]
  · rw [if_neg (fun q => e q.symm), if_neg e]
theorem vis_mono (ns : List T3) (j : Nat) : ∀ (m : Nat) (t : Vs) (x : Int), t.me.getD j false = true → (visF ns m t x).me.getD j false = true := by
  intro m
  induction m with
  | zero => intro t x h; exact h
  | succ m ihm =>
    intro t x h
    rw [visF]
    split
    · exact h
    · refine ihm _ _ (ihm _ _ ?_)
      show (t.me.set x.toNat true).getD j false = true
      by_cases hx : x.toNat < t.me.length
      · rw [getD_set hx]; split
        · rfl
        · exact h
      · rw [List.set_eq_of_length_le (by omega)]; exact h
theorem vis_ok {vars : Nat} {ns : List T3} {sp : List Int} (g : Good vars ns sp) : ∀ (n : Nat) (s : Vs) (f : Int) (G : Int → Prop), VI ns G s → alive ns f → (vars : Int) - (at3 ns f).1 < n → (∀ i, G i → (at3 ns i).1 < (at3 ns f).1) →
    VI ns G (visF ns n s f) ∧ (f ≤ 1 ∨ f ∈ (visF ns n s f).od) ∧ ∃ new, (visF ns n s f).od = s.od ++ new ∧ ∀ i ∈ new, Rc ns [f] i := by
  intro n
  induction n with
  | zero => intro s f G _ ha hn _; have := (g.var ha).2; omega
  | succ n ih =>
    intro s f G hV ha hn hG
    rw [visF]
    by_cases h1 : f ≤ 1 ∨ s.me.getD f.toNat false = true
    · rw [if_pos h1]
      refine ⟨hV, ?_, [], by simp, fun i hi => nomatch hi⟩
      rcases h1 with h | h
      · exact Or.inl h
      · obtain ⟨j, rfl, hj⟩ := ha.nat
        rcases hV.me j (by simpa using h) with q | q
        · exact Or.inr q
        · have := hG _ q; omega
    · rw [if_neg h1]
      have h2 : 2 ≤ f := by omega
      have hm : s.me.getD f.toNat false = false := by
        cases e : s.me.getD f.toNat false
        · rfl
        · exact absurd (Or.inr e) h1
      obtain ⟨j, rfl, hj⟩ := ha.nat
      rw [Int.toNat_natCast] at hm ⊢
      have hjl : j < s.me.length := by rw [hV.len]; exact hj
      obtain ⟨q1, q2, q3, q4, q5, q6, q7⟩ := g.nd (j : Int) h2 ha
      have hnod : (j : Int) ∉ s.od := fun h => by
        have := (hV.mem _ h).2.2
        rw [Int.toNat_natCast, hm] at this; cases this
      have V1 : VI ns (fun i => G i ∨ i = (j : Int)) ⟨s.me.set j true, s.od⟩ := by
        refine ⟨by simp; exact hV.len, hV.nd, fun i hi => ?_, fun i hi => ?_, hV.kid⟩
        · obtain ⟨a, b, c⟩ := hV.mem i hi
          refine ⟨a, b, ?_⟩
          rw [getD_set hjl]; split
          · rfl
          · exact c
        · have hi' : (s.me.set j true).getD i false = true := hi
          rw [getD_set hjl] at hi'
          by_cases e : i = j
          · exact Or.inr (Or.inr (by rw [e]))
          · rw [if_neg e] at hi'
            exact (hV.me i hi').imp id Or.inl
      have hmk : (visF ns n (visF ns n ⟨s.me.set j true, s.od⟩ (at3 ns (j : Int)).2.1) (at3 ns (j : Int)).2.2).me.getD j false = true :=
        vis_mono ns j n _ _ (vis_mono ns j n _ _ (by show (s.me.set j true).getD j false = true; rw [getD_set hjl, if_pos rfl]))
      obtain ⟨V2, f2, new2, e2, r2⟩ := ih ⟨s.me.set j true, s.od⟩ (at3 ns (j : Int)).2.1 _ V1 q4 (by omega) (fun i hi => by
        rcases hi with h | h
        · have := hG i h; omega
        · rw [h]; exact q6)
      generalize visF ns n ⟨s.me.set j true, s.od⟩ (at3 ns (j : Int)).2.1 = s2 at V2 f2 e2 hmk ⊢
      obtain ⟨V3, f3, new3, e3, r3⟩ := ih s2 (at3 ns (j : Int)).2.2 _ V2 q5 (by omega) (fun i hi => by
        rcases hi with h | h
        · have := hG i h; omega
        · rw [h]; exact q7)
      generalize visF ns n s2 (at3 ns (j : Int)).2.2 = s3 at V3 f3 e3 hmk ⊢
      dsimp only at e2
      have hn3 : (j : Int) ∉ s3.od := fun h => by
        rw [e3, e2] at h
        simp only [List.mem_append] at h
        rcases h with (h | h) | h
        · exact hnod h
        · have := rc_var g q4 (r2 _ h); omega
        · have := rc_var g q5 (r3 _ h); omega
      refine ⟨⟨V3.len, ?_, fun i hi => ?_, fun i hi => ?_, fun a i b e => ?_⟩, Or.inr (by simp), new2 ++ new3 ++ [(j : Int)], by simp [e3, e2], fun i hi => ?_⟩
      · show (s3.od ++ [(j : Int)]).Nodup
        rw [List.nodup_append]
        exact ⟨V3.nd, by simp, fun a ha b hb e => hn3 (by rw [List.mem_singleton.1 hb] at e; rw [← e]; exact ha)⟩
      · have hi' : i ∈ s3.od ++ [(j : Int)] := hi
        rcases List.mem_append.1 hi' with h | h
        · exact V3.mem i h
        · rw [List.mem_singleton.1 h]
          refine ⟨h2, ha, ?_⟩
          rw [Int.toNat_natCast]
          exact hmk
      · have hi' : s3.me.getD i false = true := hi
        rcases V3.me i hi' with h | h | h
        · exact Or.inl (List.mem_append_left _ h)
        · exact Or.inr h
        · exact Or.inl (List.mem_append_right _ (by rw [h]; simp))
      · have e' : s3.od ++ [(j : Int)] = a ++ i :: b := e
        rcases List.eq_nil_or_concat b with rfl | ⟨b', x, rfl⟩
        · have := List.append_inj' e' rfl
          obtain ⟨e4, e5⟩ := this
          injection e5 with e5 _
          subst e5
          rw [← e4]
          refine ⟨f2.imp id (fun h => ?_), f3⟩
          rw [e3]; exact List.mem_append_left _ h
        · have e6 : s3.od ++ [(j : Int)] = (a ++ i :: b') ++ [x] := by rw [e']; simp
          have := List.append_inj' e6 rfl
          exact V3.kid a i b' this.1
      · simp only [List.mem_append, List.mem_singleton] at hi
        have up : ∀ c, (c = (at3 ns (j : Int)).2.1 ∨ c = (at3 ns (j : Int)).2.2) → ∀ i, Rc ns [c] i → Rc ns [(j : Int)] i := fun c hc i hi => hi.mono fun k hk => by
          rw [List.mem_singleton.1 hk]
          rcases hc with rfl | rfl
          · exact Rc.lo (Rc.base (by simp)) h2
          · exact Rc.hi (Rc.base (by simp)) h2
        rcases hi with (h | h) | h
        · exact up _ (Or.inl rfl) i (r2 i h)
        · exact up _ (Or.inr rfl) i (r3 i h)
        · rw [h]; exact Rc.base (by simp)
end Go.Proofs.YtkmkmgnfolpphaaDoor
namespace Go.Proofs.YtkmkmgnfolpphaaDoor

/-- Under how many assignments of all variables a diagram is true. -/
def cvN (vars : Nat) (ns : List T3) : Nat → Int → Nat
  | 0, i => if i = 1 then 2 ^ vars else 0
  | n + 1, i => if i ≤ 1 then (if i = 1 then 2 ^ vars else 0) else (cvN vars ns n (at3 ns i).2.1 + cvN vars ns n (at3 ns i).2.2) / 2
def cv (vars : Nat) (ns : List T3) (i : Int) : Nat := cvN vars ns (vars + 1) i
theorem cvN_more {vars : Nat} {ns : List T3} {sp : List Int} (g : Good vars ns sp) : ∀ (n m : Nat) (i : Int), alive ns i → (vars : Int) - (at3 ns i).1 < n → (vars : Int) - (at3 ns i).1 < m → cvN vars ns n i = cvN vars ns m i := by
  intro n
  induction n with
  | zero => intro m f hf h1; have := (g.var hf).2; omega
  | succ n ih =>
    intro m f hf h1 h2
    cases m with
    | zero => have := (g.var hf).2; omega
    | succ m =>
      unfold cvN
      by_cases h3 : f ≤ 1
      · rw [if_pos h3, if_pos h3]
      · rw [if_neg h3, if_neg h3]
        obtain ⟨q1, q2, q3, q4, q5, q6, q7⟩ := g.nd f (by omega) hf
        rw [ih m _ q4 (by omega) (by omega), ih m _ q5 (by omega) (by omega)]
theorem cv_le {vars : Nat} {ns : List T3} {i : Int} (h : i ≤ 1) : cv vars ns i = if i = 1 then 2 ^ vars else 0 := by unfold cv cvN; rw [if_pos h]
theorem cv_step {vars : Nat} {ns : List T3} {sp : List Int} (g : Good vars ns sp) {i : Int} (hi : alive ns i) (h2 : 2 ≤ i) : cv vars ns i = (cv vars ns (at3 ns i).2.1 + cv vars ns (at3 ns i).2.2) / 2 := by
  obtain ⟨q1, q2, q3, q4, q5, q6, q7⟩ := g.nd i h2 hi
  unfold cv
  rw [cvN_more g (vars + 1) vars (at3 ns i).2.1 q4 (by omega) (by omega), cvN_more g (vars + 1) vars (at3 ns i).2.2 q5 (by omega) (by omega)]
  rw [cvN, if_neg (by omega)]
theorem cv_dvd {vars : Nat} {ns : List T3} {sp : List Int} (g : Good vars ns sp) : ∀ (n : Nat) (i : Int), alive ns i → (vars : Int) - (at3 ns i).1 < n → cv vars ns i ≤ 2 ^ vars ∧ 2 ^ (at3 ns i).1.toNat ∣ cv vars ns i := by
  intro n
  induction n with
  | zero => intro i hi h; have := (g.var hi).2; omega
  | succ n ih =>
    intro i hi h
    by_cases h2 : 2 ≤ i
    · obtain ⟨q1, q2, q3, q4, q5, q6, q7⟩ := g.nd i h2 hi
      obtain ⟨a1, a2⟩ := ih _ q4 (by omega)
      obtain ⟨b1, b2⟩ := ih _ q5 (by omega)
      rw [cv_step g hi h2]
      have up : ∀ c : Int, (at3 ns i).1 < c → 2 ^ ((at3 ns i).1.toNat + 1) ∣ 2 ^ c.toNat := fun c hc => Nat.pow_dvd_pow 2 (by omega)
      obtain ⟨x, hx⟩ := Nat.dvd_trans (up _ q6) a2
      obtain ⟨y, hy⟩ := Nat.dvd_trans (up _ q7) b2
      refine ⟨by omega, ⟨x + y, ?_⟩⟩
      rw [hx, hy, Nat.pow_succ, ← Nat.mul_add, Nat.mul_assoc, Nat.mul_comm 2 (x + y), ← Nat.mul_assoc, Nat.mul_div_cancel _ (by decide)]
    · rw [cv_le (by omega)]
      have h0 := hi.1
      rcases (show i = 0 ∨ i = 1 by omega) with rfl | rfl
      · simp
      · rw [g.o]; simp
theorem cv_bd {vars : Nat} {ns : List T3} {sp : List Int} (g : Good vars ns sp) {i : Int} (hi : alive ns i) : cv vars ns i ≤ 2 ^ vars := (cv_dvd g (vars + 1) i hi (by have := (g.var hi).1; omega)).1
theorem cv_even {vars : Nat} {ns : List T3} {sp : List Int} (g : Good vars ns sp) {i : Int} (hi : alive ns i) (h2 : 2 ≤ i) : cv vars ns (at3 ns i).2.1 + cv vars ns (at3 ns i).2.2 = 2 * cv vars ns i := by
  obtain ⟨q1, q2, q3, q4, q5, q6, q7⟩ := g.nd i h2 hi
  have a := (cv_dvd g (vars + 1) _ q4 (by have := (g.var q4).1; omega)).2
  have b := (cv_dvd g (vars + 1) _ q5 (by have := (g.var q5).1; omega)).2
  have up : ∀ c : Int, (at3 ns i).1 < c → 2 ∣ 2 ^ c.toNat := fun c hc => by
    have : 2 ^ 1 ∣ 2 ^ c.toNat := Nat.pow_dvd_pow 2 (by omega)
    simpa using this
  obtain ⟨x, hx⟩ := Nat.dvd_trans (up _ q6) a
  obtain ⟨y, hy⟩ := Nat.dvd_trans (up _ q7) b
  rw [cv_step g hi h2, hx, hy]
  omega
end Go.Proofs.YtkmkmgnfolpphaaDoor
namespace Go.Proofs.YtkmkmgnfolpphaaDoor

theorem cnt_snoc1 {ns : List T3} (h : 2 ≤ ns.length) {n : T3} (hn : n ≠ nd0) : cntF (ns ++ [n]) = cntF ns + 1 := by
  unfold cntF
  rw [List.drop_append_of_le_length h, List.countP_append]
  simp [hn]
theorem nodeF_room {vars most : Nat} {S : St} {A : List Int} {top no yes : Int} (g : Good vars S.ns S.sp) (hsp : S.sp = []) (hc : cntF S.ns < most) :
    (∃ f, (nodeF most S A top no yes).1 = some f) ∧ (nodeF most S A top no yes).2.sp = [] ∧ (nodeF most S A top no yes).2.gone = S.gone ∧ cntF (nodeF most S A top no yes).2.ns ≤ cntF S.ns + 1 ∧ S.ns <+: (nodeF most S A top no yes).2.ns := by
  unfold nodeF
  by_cases h : no = yes
  · rw [if_pos h]; exact ⟨⟨_, rfl⟩, hsp, rfl, Nat.le_succ _, List.prefix_refl _⟩
  · rw [if_neg h]
    cases findN S.ns (top, no, yes) with
    | some f => exact ⟨⟨_, rfl⟩, hsp, rfl, Nat.le_succ _, List.prefix_refl _⟩
    | none =>
      dsimp only
      rw [if_neg (by omega)]
      unfold addF
      rw [hsp]
      refine ⟨⟨_, rfl⟩, rfl, rfl, ?_, List.prefix_append _ _⟩
      dsimp only [List.getLast?_nil]
      rw [cnt_snoc1 g.len (fun e => h (by rw [nd0, Prod.mk.injEq, Prod.mk.injEq] at e; omega))]
      exact Nat.le_refl _
theorem solve_room {vars most : Nat} {P O : List Int} : ∀ (n : Nat) (S : St) (R : Rs) (q : T3) (t : Int) (k : Nat), Good vars S.ns S.sp → (∀ i ∈ P ++ valsR R ++ O, alive S.ns i) → RsOk vars S.ns O R → QOk S.ns O q → LB S.ns q t → 0 ≤ t → t ≤ vars → (vars : Int) - t < n → S.sp = [] → (vars : Int) - t ≤ k → cntF S.ns + 2 ^ k ≤ most + 1 →
    (∃ f, (solveF vars most P O n S R q).1 = some f) ∧ (solveF vars most P O n S R q).2.1.sp = [] ∧ (solveF vars most P O n S R q).2.1.gone = S.gone ∧ cntF (solveF vars most P O n S R q).2.1.ns + 1 ≤ cntF S.ns + 2 ^ k ∧ S.ns <+: (solveF vars most P O n S R q).2.1.ns := by
  intro n
  induction n with
  | zero => intro S R q t k _ _ _ _ _ _ h1 h2; omega
  | succ n ih =>
    intro S R q t k g hA hR hq hl h0 htv hn hsp hk hc
    have hp2 : 1 ≤ 2 ^ k := Nat.one_le_two_pow
    rw [solveF]
    obtain ⟨p, hp⟩ : ∃ p, p = plainF q := ⟨_, rfl⟩
    rw [← hp]
    cases hkn : knownF p with
    | some f => exact ⟨⟨_, rfl⟩, hsp, rfl, by show cntF S.ns + 1 ≤ _; omega, List.prefix_refl _⟩
    | none =>
      dsimp only
      cases hlk : lookR R p with
      | some f => exact ⟨⟨_, rfl⟩, hsp, rfl, by show cntF S.ns + 1 ≤ _; omega, List.prefix_refl _⟩
      | none =>
        dsimp only
        obtain ⟨pq, t0, tlt, tl, c1, c2, tn⟩ := mid1 (n := n) g hA hq hl h0 htv hn hp hkn
        have tt : t ≤ topF vars S.ns p := by
          have hO : ∀ i ∈ O, alive S.ns i := fun i hi => hA i (by simp [hi])
          have p1 := rz_nn g hO pq.f
          have p3 := rz_nn g hO pq.h
          have pl : LB S.ns p t := by rw [hp]; exact plain_lb g htv hl
          exact top_ge (by omega) (by omega) htv pl
        obtain ⟨k', rfl⟩ : ∃ k', k = k' + 1 := ⟨k - 1, by omega⟩
        have hk2 : 2 ^ (k' + 1) = 2 ^ k' + 2 ^ k' := by rw [Nat.pow_succ]; omega
        have hp3 : 1 ≤ 2 ^ k' := Nat.one_le_two_pow
        obtain ⟨⟨no, i1⟩, i2, i3, i4, i5⟩ := ih S R (halfF S.ns (topF vars S.ns p) false p) (topF vars S.ns p + 1) k' g hA hR c1 c2 (by omega) (by omega) tn hsp (by omega) (by omega)
        have s1 := solve_ok (most := most) n S R (halfF S.ns (topF vars S.ns p) false p) (topF vars S.ns p + 1) g hA hR c1 c2 (by omega) (by omega) tn
        obtain ⟨r1, S1, R1, e1⟩ : ∃ r1 S1 R1, solveF vars most P O n S R (halfF S.ns (topF vars S.ns p) false p) = (r1, S1, R1) := ⟨_, _, _, rfl⟩
        rw [e1] at i1 i2 i3 i4 i5 s1 ⊢
        dsimp only at i1 i2 i3 i4 i5 s1
        subst i1
        dsimp only
        obtain ⟨hA1, pq1, d1, d2⟩ := mid2 g hA pq tl tlt s1
        obtain ⟨⟨yes, j1⟩, j2, j3, j4, j5⟩ := ih S1 R1 (halfF S1.ns (topF vars S.ns p) true p) (topF vars S.ns p + 1) k' s1.good hA1 s1.rs d1 d2 (by omega) (by omega) tn i2 (by omega) (by omega)
        have s2 := solve_ok (most := most) n S1 R1 (halfF S1.ns (topF vars S.ns p) true p) (topF vars S.ns p + 1) s1.good hA1 s1.rs d1 d2 (by omega) (by omega) tn
        obtain ⟨r2, S2, R2, e2⟩ : ∃ r2 S2 R2, solveF vars most P O n S1 R1 (halfF S1.ns (topF vars S.ns p) true p) = (r2, S2, R2) := ⟨_, _, _, rfl⟩
        rw [e2] at j1 j2 j3 j4 j5 s2 ⊢
        dsimp only at j1 j2 j3 j4 j5 s2
        subst j1
        dsimp only
        obtain ⟨⟨f, m1⟩, m2, m3, m4, m5⟩ := nodeF_room (A := P ++ R2.map (·.2) ++ O) (top := topF vars S.ns p) (no := no) (yes := yes) s2.good j2 (most := most) (by omega)
        obtain ⟨r3, S3, e3⟩ : ∃ r3 S3, nodeF most S2 (P ++ R2.map (·.2) ++ O) (topF vars S.ns p) no yes = (r3, S3) := ⟨_, _, rfl⟩
        rw [e3] at m1 m2 m3 m4 m5 ⊢
        dsimp only at m1 m2 m3 m4 m5
        subst m1
        exact ⟨⟨f, rfl⟩, m2, by show S3.gone = _; omega, by show cntF S3.ns + 1 ≤ _; omega, (i5.trans j5).trans m5⟩
/-- What an answer is, where there is room. -/
theorem ans_room {vars most : Nat} {P : List Int} {S : St} {q : T3} {O : List Int} (g : Good vars S.ns S.sp) (hP : ∀ i ∈ P, alive S.ns i) (hO : ∀ i ∈ O, alive S.ns i) (hq : QOk S.ns O q) (hsp : S.sp = []) (hc : cntF S.ns + 2 ^ vars ≤ most + 1) :
    ∃ f S' R', solveF vars most P O (vars + 1) S [] q = (some f, S', R') ∧ S'.sp = [] ∧ S'.gone = S.gone ∧ cntF S'.ns + 1 ≤ cntF S.ns + 2 ^ vars ∧ Good vars S'.ns S'.sp ∧ S.ns <+: S'.ns ∧ alive S'.ns f ∧ (∀ x, val vars S'.ns x f = qval (val vars S.ns x) q) := by
  have hA : ∀ i ∈ P ++ valsR [] ++ O, alive S.ns i := fun i hi => by
    simp only [valsR, List.map_nil, List.append_nil, List.mem_append] at hi
    exact hi.elim (hP i) (hO i)
  have hl : LB S.ns q 0 := by
    refine ⟨(g.var (hq.f.alive g hO)).1, hq.g.imp id (fun h => (g.var (h.alive g hO)).1), (g.var (hq.h.alive g hO)).1⟩
  have hR : RsOk vars S.ns O [] := fun p hp => nomatch hp
  have h1 := solve_room (vars := vars) (most := most) (P := P) (O := O) (vars + 1) S [] q 0 vars g hA hR hq hl (Int.le_refl _) (by omega) (by omega) hsp (by omega) hc
  have h2 := solve_ok (most := most) (vars + 1) S [] q 0 g hA hR hq hl (Int.le_refl _) (by omega) (by omega)
  obtain ⟨r, S', R', e⟩ : ∃ r S' R', solveF vars most P O (vars + 1) S [] q = (r, S', R') := ⟨_, _, _, rfl⟩
  rw [e] at h1 h2
  obtain ⟨⟨f, h3⟩, h4, h5, h6, h7⟩ := h1
  dsimp only at h2 h3 h4 h5 h6 h7
  subst h3
  obtain ⟨k1, -, k3, -⟩ := h2.res f rfl
  exact ⟨f, S', R', e, h4, h5, h6, h2.good, h7, k1, k3⟩
/-! What is only added to. -/
theorem pre_at {ns ns' : List T3} (h : ns <+: ns') {i : Int} (hi : i.toNat < ns.length) : at3 ns' i = at3 ns i := by
  obtain ⟨z, rfl⟩ := h
  unfold at3
  rw [List.getD_eq_getElem?_getD, List.getElem?_append, if_pos hi, List.getD_eq_getElem?_getD]
theorem pre_alive {ns ns' : List T3} (h : ns <+: ns') {i : Int} (hi : alive ns i) : alive ns' i :=
  ⟨hi.1, Nat.lt_of_lt_of_le hi.2.1 h.length_le, by rw [pre_at h hi.2.1]; exact hi.2.2⟩
theorem pre_val {vars : Nat} {ns ns' : List T3} {sp : List Int} (g : Good vars ns sp) (h : ns <+: ns') (x : Int → Bool) {i : Int} (hi : alive ns i) : val vars ns' x i = val vars ns x i := by
  have k : Kp ns ns' [i] := ⟨fun j hj => pre_at h (hj.alive g (by intro a ha; rw [List.mem_singleton] at ha; exact ha ▸ hi)).2.1, h.length_le⟩
  exact k.val x (Rc.base (List.mem_singleton.2 rfl))
/-- What a variable's node is, where there is room. -/
theorem var_room {vars most : Nat} {S : St} {A : List Int} {i : Int} (g : Good vars S.ns S.sp) (hi : 0 ≤ i ∧ i < vars) (hsp : S.sp = []) (hc : cntF S.ns < most) (hA : ∀ i ∈ A, alive S.ns i) :
    ∃ f S', nodeF most S A i 0 1 = (some f, S') ∧ S'.sp = [] ∧ S'.gone = S.gone ∧ cntF S'.ns ≤ cntF S.ns + 1 ∧ Good vars S'.ns S'.sp ∧ S.ns <+: S'.ns ∧ alive S'.ns f ∧ (∀ x, val vars S'.ns x f = x i) := by
  obtain ⟨⟨f, h3⟩, h4, h5, h6, h7⟩ := nodeF_room (A := A) (top := i) (no := 0) (yes := 1) g hsp hc
  have h2 := nodeF_ok (most := most) g hA hi (Or.inl rfl) (Or.inr (Or.inl rfl)) (by rw [g.z]; exact hi.2) (by rw [g.o]; exact hi.2)
  obtain ⟨r, S', e⟩ : ∃ r S', nodeF most S A i 0 1 = (r, S') := ⟨_, _, rfl⟩
  rw [e] at h2 h3 h4 h5 h6 h7
  dsimp only at h2 h3 h4 h5 h6 h7
  subst h3
  obtain ⟨k1, -, k3⟩ := h2.res f rfl
  refine ⟨f, S', e, h4, h5, h6, h2.good, h7, k1, fun x => ?_⟩
  rw [k3 x, (val_01 vars S'.ns x).1, (val_01 vars S'.ns x).2]
  cases x i <;> rfl
end Go.Proofs.YtkmkmgnfolpphaaDoor
namespace Go.Proofs.YtkmkmgnfolpphaaDoor

def nodeR (most : Nat) (S : St) (top no yes : Int) : Option (Int × St) :=
  if no = yes then some (no, S)
  else match findN S.ns (top, no, yes) with
  | some f => some (f, S)
  | none => if cntF S.ns = most then none else some (addF S (top, no, yes))
def solveR (vars most : Nat) : Nat → St → Rs → T3 → Option (Int × St × Rs)
  | 0, _, _, _ => none
  | n + 1, S, R, q =>
    match knownF (plainF q) with
    | some f => some (f, S, R)
    | none =>
      match lookR R (plainF q) with
      | some f => some (f, S, R)
      | none =>
        match solveR vars most n S R (halfF S.ns (topF vars S.ns (plainF q)) false (plainF q)) with
        | none => none
        | some (no, S1, R1) =>
          match solveR vars most n S1 R1 (halfF S1.ns (topF vars S.ns (plainF q)) true (plainF q)) with
          | none => none
          | some (yes, S2, R2) =>
            match nodeR most S2 (topF vars S.ns (plainF q)) no yes with
            | none => none
            | some (f, S3) => some (f, S3, R2 ++ [(plainF q, f)])
theorem nodeR_eq {most : Nat} {S S' : St} {top no yes f : Int} (h : nodeR most S top no yes = some (f, S')) (A : List Int) : nodeF most S A top no yes = (some f, S') ∧ S'.gone = S.gone := by
  unfold nodeR at h
  unfold nodeF
  by_cases e : no = yes
  · rw [if_pos e] at h ⊢; cases h; exact ⟨rfl, rfl⟩
  · rw [if_neg e] at h ⊢
    cases hf : findN S.ns (top, no, yes) with
    | some x => rw [hf] at h; cases h; exact ⟨rfl, rfl⟩
    | none =>
      rw [hf] at h
      dsimp only at h ⊢
      by_cases ec : cntF S.ns = most
      · rw [if_pos ec] at h; cases h
      · rw [if_neg ec] at h ⊢
        have ha : (addF S (top, no, yes)).2.gone = S.gone := by unfold addF; split <;> rfl
        generalize addF S (top, no, yes) = z at h ha ⊢
        cases h
        exact ⟨rfl, ha⟩
theorem solveR_eq {vars most : Nat} : ∀ (n : Nat) (S S' : St) (R R' : Rs) (q : T3) (f : Int), solveR vars most n S R q = some (f, S', R') → ∀ P O : List Int, solveF vars most P O n S R q = (some f, S', R') ∧ S'.gone = S.gone := by
  intro n
  induction n with
  | zero => intro S S' R R' q f h; cases h
  | succ n ih =>
    intro S S' R R' q f h P O
    rw [solveR] at h
    rw [solveF]
    generalize plainF q = p at h ⊢
    cases hk : knownF p with
    | some x => rw [hk] at h; cases h; exact ⟨rfl, rfl⟩
    | none =>
      rw [hk] at h
      dsimp only at h ⊢
      cases hl : lookR R p with
      | some x => rw [hl] at h; cases h; exact ⟨rfl, rfl⟩
      | none =>
        rw [hl] at h
        dsimp only at h ⊢
        cases h1 : solveR vars most n S R (halfF S.ns (topF vars S.ns p) false p) with
        | none => rw [h1] at h; cases h
        | some r1 =>
          obtain ⟨no, S1, R1⟩ := r1
          rw [h1] at h
          dsimp only at h
          obtain ⟨e1, g1⟩ := ih _ _ _ _ _ _ h1 P O
          rw [e1]
          dsimp only
          cases h2 : solveR vars most n S1 R1 (halfF S1.ns (topF vars S.ns p) true p) with
          | none => rw [h2] at h; cases h
          | some r2 =>
            obtain ⟨yes, S2, R2⟩ := r2
            rw [h2] at h
            dsimp only at h
            obtain ⟨e2, g2⟩ := ih _ _ _ _ _ _ h2 P O
            rw [e2]
            dsimp only
            cases h3 : nodeR most S2 (topF vars S.ns p) no yes with
            | none => rw [h3] at h; cases h
            | some r3 =>
              obtain ⟨f3, S3⟩ := r3
              rw [h3] at h
              cases h
              obtain ⟨e3, g3⟩ := nodeR_eq h3 (P ++ R2.map (·.2) ++ O)
              rw [e3]
              exact ⟨rfl, by rw [g3, g2, g1]⟩
def ansQ (vars most : Nat) (S : St) (q : T3) : Option (Int × St) := (solveR vars most (vars + 1) S [] q).map fun r => (r.1, r.2.1)
end Go.Proofs.YtkmkmgnfolpphaaDoor
