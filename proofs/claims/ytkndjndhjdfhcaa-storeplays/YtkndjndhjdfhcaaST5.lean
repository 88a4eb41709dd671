/- A store in memory: its rows of numbers, each in a block of its own. -/
import Derived.Test.YtkndjndhjdfhcaaST4
namespace Go.Proofs.Ytkndjndhjdfhcaa
open Go.RowKit
set_option linter.unusedSimpArgs false
set_option linter.unusedVariables false

/-- Only blocks of F have turned; what is of F' is of F or new. -/
structure Ch (w w' : World) (F F' : Nat → Prop) : Prop where
  os : w'.os = w.os
  tape : w'.tape = w.tape
  output : w'.output = w.output
  size : w.heap.size ≤ w'.heap.size
  block : ∀ k, k < w.heap.size → ¬ F k → w'.heap[k]? = w.heap[k]?
  foot : ∀ k, F' k → F k ∨ (w.heap.size ≤ k ∧ k < w'.heap.size)
theorem Ch.refl (w : World) (F : Nat → Prop) : Ch w w F F := ⟨rfl, rfl, rfl, Nat.le_refl _, fun _ _ _ => rfl, fun _ h => Or.inl h⟩
theorem Ch.trans {a b c : World} {F G H : Nat → Prop} (h : Ch a b F G) (k : Ch b c G H) : Ch a c F H := by
  refine ⟨k.os.trans h.os, k.tape.trans h.tape, k.output.trans h.output, Nat.le_trans h.size k.size, fun q hq hf => (k.block q (Nat.lt_of_lt_of_le hq h.size) fun hg => ?_).trans (h.block q hq hf), fun q hq => ?_⟩
  · rcases h.foot q hg with h1 | ⟨h1, _⟩
    · exact hf h1
    · omega
  · have := h.size
    have := k.size
    rcases k.foot q hq with h1 | ⟨h1, h2⟩
    · rcases h.foot q h1 with h3 | ⟨h3, h4⟩
      · exact Or.inl h3
      · exact Or.inr ⟨h3, by omega⟩
    · exact Or.inr ⟨by omega, h2⟩
theorem Ch.of_below {w w' : World} (F : Nat → Prop) (h : Below w.heap.size w w') : Ch w w' F F := ⟨h.os, h.tape, h.output, h.size, fun k hk _ => h.block k hk, fun _ h => Or.inl h⟩
theorem Ch.below {w w' : World} {F F' : Nat → Prop} {B : Nat} (h : Ch w w' F F') (hF : ∀ k, F k → B ≤ k) (hB : B ≤ w.heap.size) : Below B w w' := ⟨h.os, h.tape, h.output, h.size, fun k hk => h.block k (by omega) (fun hf => by have := hF k hf; omega)⟩
theorem Ch.low {w w' : World} {F F' : Nat → Prop} {B : Nat} (h : Ch w w' F F') (hF : ∀ k, F k → B ≤ k) (hB : B ≤ w.heap.size) : ∀ k, F' k → B ≤ k := fun k hk => by
  rcases h.foot k hk with h1 | ⟨h1, _⟩
  · exact hF k h1
  · omega

/-- Rows of numbers, each in a block of its own, all of them of F. -/
structure Fam (w : World) (F : Nat → Prop) (us : List Value) (X : List (List Int)) : Prop where
  len : us.length = X.length
  row : ∀ (i : Nat) u x, us[i]? = some u → X[i]? = some x → Is' w 0 u x
  foot : ∀ (i : Nat) u b, us[i]? = some u → u.ownBlock = some b → F b
  sep : ∀ (i j : Nat) u v b, us[i]? = some u → us[j]? = some v → i ≠ j → u.ownBlock = some b → v.ownBlock ≠ some b
theorem Fam.get {w : World} {F : Nat → Prop} {us : List Value} {X : List (List Int)} (h : Fam w F us X) {i : Nat} {u : Value} (hu : us[i]? = some u) : ∃ x, X[i]? = some x ∧ Is' w 0 u x := by
  have hi := (List.getElem?_eq_some_iff.1 hu).1
  rw [h.len] at hi
  exact ⟨X[i], List.getElem?_eq_getElem hi, h.row i u _ hu (List.getElem?_eq_getElem hi)⟩
theorem Fam.lt {w : World} {F : Nat → Prop} {us : List Value} {X : List (List Int)} (h : Fam w F us X) {i : Nat} {u : Value} {b : Nat} (hu : us[i]? = some u) (hb : u.ownBlock = some b) : b < w.heap.size := by
  obtain ⟨x, -, hI⟩ := h.get hu
  exact (World.ownsRow.lt hI b hb).2
theorem Fam.kept {w w' : World} {F : Nat → Prop} {us : List Value} {X : List (List Int)} (h : Fam w F us X) (hk : ∀ k, k < w.heap.size → F k → w'.heap[k]? = w.heap[k]?) : Fam w' F us X :=
  ⟨h.len, fun i u x hu hx => row_own (h.row i u x hu hx) (fun b hb => hk b (h.lt hu hb) (h.foot i u b hu hb)), h.foot, h.sep⟩
theorem Fam.mono {w : World} {F F' : Nat → Prop} {us : List Value} {X : List (List Int)} (h : Fam w F us X) (hF : ∀ k, F k → F' k) : Fam w F' us X :=
  ⟨h.len, h.row, fun i u b hu hb => hF b (h.foot i u b hu hb), h.sep⟩
/-- One row is turned (or moved to a new block), the others stay. -/
theorem Fam.put {w w' : World} {F : Nat → Prop} {us : List Value} {X : List (List Int)} (h : Fam w F us X) {i : Nat} {u u' : Value} {x' : List Int} (hu : us[i]? = some u) (hI : Is' w' 0 u' x')
    (hk : ∀ k, k < w.heap.size → F k → u.ownBlock ≠ some k → (∃ (j : Nat) (v : Value), us[j]? = some v ∧ v.ownBlock = some k) → w'.heap[k]? = w.heap[k]?) (hat : u'.ownBlock = u.ownBlock ∨ ∃ b, u'.ownBlock = some b ∧ w.heap.size ≤ b) :
    Fam w' (fun k => F k ∨ (w.heap.size ≤ k ∧ k < w'.heap.size)) (us.set i u') (X.set i x') := by
  have hil := (List.getElem?_eq_some_iff.1 hu).1
  have hix : i < X.length := by rw [← h.len]; exact hil
  refine ⟨by simp [h.len], fun j v x hv hx => ?_, fun j v b hv hb => ?_, fun j k v y b hv hy hjk hb => ?_⟩
  · by_cases e : i = j
    · subst e
      rw [List.getElem?_set_self hil] at hv
      rw [List.getElem?_set_self hix] at hx
      cases hv; cases hx
      exact hI
    · rw [List.getElem?_set_ne e] at hv hx
      exact row_own (h.row j v x hv hx) (fun b hb => hk b (h.lt hv hb) (h.foot j v b hv hb) (fun q => h.sep j i v u b hv hu (fun e' => e e'.symm) hb q) ⟨j, v, hv, hb⟩)
  · by_cases e : i = j
    · subst e
      rw [List.getElem?_set_self hil] at hv
      cases hv
      rcases hat with q | ⟨b', q, hb'⟩
      · exact Or.inl (h.foot i u b hu (by rw [← q]; exact hb))
      · rw [q] at hb; cases hb
        exact Or.inr ⟨hb', (World.ownsRow.lt hI b q).2⟩
    · rw [List.getElem?_set_ne e] at hv
      exact Or.inl (h.foot j v b hv hb)
  · by_cases e : i = j
    · subst e
      rw [List.getElem?_set_self hil] at hv
      cases hv
      rw [List.getElem?_set_ne hjk] at hy
      rcases hat with q | ⟨b', q, hb'⟩
      · exact h.sep i k u y b hu hy hjk (by rw [← q]; exact hb)
      · rw [q] at hb; cases hb
        intro q2
        have := h.lt hy q2
        omega
    · rw [List.getElem?_set_ne e] at hv
      by_cases e2 : i = k
      · subst e2
        rw [List.getElem?_set_self hil] at hy
        cases hy
        intro q2
        rcases hat with q | ⟨b', q, hb'⟩
        · exact h.sep j i v u b hv hu hjk hb (by rw [← q]; exact q2)
        · rw [q] at q2; cases q2
          have := h.lt hv hb
          omega
      · rw [List.getElem?_set_ne e2] at hy
        exact h.sep j k v y b hv hy hjk hb
/-- Rows that are empty and lie nowhere are put behind. -/
theorem Fam.more {w : World} {F : Nat → Prop} {us : List Value} {X : List (List Int)} (h : Fam w F us X) (k : Nat) : Fam w F (us ++ List.replicate k (.slice none 0 0)) (X ++ List.replicate k []) := by
  have key : ∀ (i : Nat) (u : Value), (us ++ List.replicate k (.slice none 0 0))[i]? = some u → us[i]? = some u ∨ (us.length ≤ i ∧ u = .slice none 0 0) := fun i u hu => by
    by_cases hi : i < us.length
    · rw [List.getElem?_append_left hi] at hu; exact Or.inl hu
    · rw [List.getElem?_append_right (by omega)] at hu
      exact Or.inr ⟨by omega, List.eq_of_mem_replicate (List.mem_of_getElem? hu)⟩
  refine ⟨by simp [h.len], fun i u x hu hx => ?_, fun i u b hu hb => ?_, fun i j u v b hu hv hij hb => ?_⟩
  · rcases key i u hu with h1 | ⟨h1, rfl⟩
    · have hi := (List.getElem?_eq_some_iff.1 h1).1
      rw [List.getElem?_append_left (by rw [← h.len]; exact hi)] at hx
      exact h.row i u x h1 hx
    · rw [List.getElem?_append_right (by rw [← h.len]; exact h1)] at hx
      rw [List.eq_of_mem_replicate (List.mem_of_getElem? hx)]
      exact World.ownsRow_nil _ _ _ _
  · rcases key i u hu with h1 | ⟨h1, rfl⟩
    · exact h.foot i u b h1 hb
    · cases hb
  · rcases key i u hu with h1 | ⟨h1, rfl⟩
    · rcases key j v hv with h2 | ⟨h2, rfl⟩
      · exact h.sep i j u v b h1 h2 hij hb
      · intro e; cases e
    · cases hb

/-- The store at block s: room, arena, bounds, short clauses, watches. -/
structure St (w : World) (F : Nat → Prop) (s mo : Nat) (va vb vs vw : Value) (us : List Value) (A B S : List Int) (W : List (List Int)) : Prop where
  hd : w.heap[s]? = some (.cells #[.int .i64 (mo : Int), va, vb, vs, vw] 54)
  row : w.ownsRow 0 27 1 vw us.length us
  fam : Fam w F (va :: vb :: vs :: us) (A :: B :: S :: W)
  fs : F s
  fw : ∀ b, vw.ownBlock = some b → F b
def SX (w : World) (F : Nat → Prop) (s mo : Nat) (A B S : List Int) (W : List (List Int)) : Prop := ∃ va vb vs vw us, St w F s mo va vb vs vw us A B S W
section
variable {w w' : World} {F : Nat → Prop} {s mo : Nat} {va vb vs vw : Value} {us : List Value} {A B S : List Int} {W : List (List Int)}
theorem St.lt (h : St w F s mo va vb vs vw us A B S W) : s < w.heap.size := (Array.getElem?_eq_some_iff.1 h.hd).1
theorem St.kept (h : St w F s mo va vb vs vw us A B S W) (hk : ∀ k, k < w.heap.size → F k → w'.heap[k]? = w.heap[k]?) : St w' F s mo va vb vs vw us A B S W :=
  ⟨(hk s h.lt h.fs).trans h.hd, row_own h.row (fun b hb => hk b (h.row.lt b hb).2 (h.fw b hb)), h.fam.kept hk, h.fs, h.fw⟩
theorem St.below (h : St w F s mo va vb vs vw us A B S W) (hb : Below w.heap.size w w') : St w' F s mo va vb vs vw us A B S W := h.kept (fun k hk _ => hb.block k hk)
theorem SX.below (h : SX w F s mo A B S W) (hb : Below w.heap.size w w') : SX w' F s mo A B S W := by
  obtain ⟨va, vb, vs, vw, us, h⟩ := h
  exact ⟨va, vb, vs, vw, us, h.below hb⟩
theorem SX.kept (h : SX w F s mo A B S W) (hk : ∀ k, k < w.heap.size → F k → w'.heap[k]? = w.heap[k]?) : SX w' F s mo A B S W := by
  obtain ⟨va, vb, vs, vw, us, h⟩ := h
  exact ⟨va, vb, vs, vw, us, h.kept hk⟩
theorem St.ra (h : St w F s mo va vb vs vw us A B S W) : Is' w 0 va A := h.fam.row 0 _ _ rfl rfl
theorem St.rb (h : St w F s mo va vb vs vw us A B S W) : Is' w 0 vb B := h.fam.row 1 _ _ rfl rfl
theorem St.rs (h : St w F s mo va vb vs vw us A B S W) : Is' w 0 vs S := h.fam.row 2 _ _ rfl rfl
theorem St.len (h : St w F s mo va vb vs vw us A B S W) : us.length = W.length := by have := h.fam.len; simpa using this
theorem St.nos (h : St w F s mo va vb vs vw us A B S W) {i : Nat} {u : Value} (hu : (va :: vb :: vs :: us)[i]? = some u) : u.ownBlock ≠ some s := by
  intro e
  obtain ⟨x, -, hI⟩ := h.fam.get hu
  obtain ⟨cur, q⟩ := row_cur hI e
  rw [h.hd] at q; cases q
theorem St.now (h : St w F s mo va vb vs vw us A B S W) {i : Nat} {u : Value} (hu : (va :: vb :: vs :: us)[i]? = some u) {b : Nat} (hb : vw.ownBlock = some b) : u.ownBlock ≠ some b := by
  obtain ⟨x, -, hI⟩ := h.fam.get hu
  exact row_ne h.row hI (by decide) hb
theorem St.ws (h : St w F s mo va vb vs vw us A B S W) : vw.ownBlock ≠ some s := by
  intro e
  obtain ⟨cur, q⟩ := row_cur h.row e
  rw [h.hd] at q; cases q
end
/-- A row of numbers has been turned to u', and u' lies in cell o of block R. -/
structure Ap (w x : World) (R o : Nat) (u u' : Value) (y : List Int) (T : TypeId) (cr : Array Value) : Prop where
  os : x.os = w.os
  tape : x.tape = w.tape
  output : x.output = w.output
  size : w.heap.size ≤ x.heap.size
  kp : ∀ q, q < w.heap.size → u.ownBlock ≠ some q → q ≠ R → x.heap[q]? = w.heap[q]?
  hR : x.heap[R]? = some (.cells (cr.setIfInBounds o u') T)
  own : Is' x 0 u' y
  hat : u'.ownBlock = u.ownBlock ∨ ∃ b, u'.ownBlock = some b ∧ w.heap.size ≤ b
section
variable {w x : World} {F : Nat → Prop} {s mo : Nat} {va vb vs vw : Value} {us : List Value} {A B S : List Int} {W : List (List Int)} {u u' : Value} {y : List Int}
/-- The footprint behind. -/
def more (F : Nat → Prop) (w x : World) : Nat → Prop := fun k => F k ∨ (w.heap.size ≤ k ∧ k < x.heap.size)
theorem Ap.ch {R o : Nat} {T : TypeId} {cr : Array Value} (h : Ap w x R o u u' y T cr) (hR : F R) (hu : ∀ b, u.ownBlock = some b → F b) : Ch w x F (more F w x) :=
  ⟨h.os, h.tape, h.output, h.size, fun k hk hn => h.kp k hk (fun e => hn (hu k e)) (fun e => hn (by rw [e]; exact hR)), fun _ h => h⟩
theorem St.far (h : St w F s mo va vb vs vw us A B S W) {i : Nat} (hu : (va :: vb :: vs :: us)[i]? = some u) {o : Nat} {cr : Array Value} {T : TypeId} (ha : Ap w x s o u u' y T cr) : x.ownsRow 0 27 1 vw us.length us :=
  row_own h.row (fun b hb => ha.kp b (h.row.lt b hb).2 (fun e => h.now hu hb e) (fun e => h.ws (by rw [← e]; exact hb)))
theorem St.arena (h : St w F s mo va vb vs vw us A B S W) (ha : Ap w x s 1 va u' y 54 #[.int .i64 (mo : Int), va, vb, vs, vw]) : St x (more F w x) s mo u' vb vs vw us y B S W ∧ Ch w x F (more F w x) := by
  refine ⟨⟨ha.hR, h.far (i := 0) rfl ha, ?_, Or.inl h.fs, fun b hb => Or.inl (h.fw b hb)⟩, ha.ch h.fs (fun b hb => h.fam.foot 0 va b rfl hb)⟩
  exact h.fam.put (i := 0) rfl ha.own (fun k hk _ hn ⟨j, v, hv, hb⟩ => ha.kp k hk hn (fun e => h.nos hv (by rw [← e]; exact hb))) ha.hat
theorem St.bounds (h : St w F s mo va vb vs vw us A B S W) (ha : Ap w x s 2 vb u' y 54 #[.int .i64 (mo : Int), va, vb, vs, vw]) : St x (more F w x) s mo va u' vs vw us A y S W ∧ Ch w x F (more F w x) := by
  refine ⟨⟨ha.hR, h.far (i := 1) rfl ha, ?_, Or.inl h.fs, fun b hb => Or.inl (h.fw b hb)⟩, ha.ch h.fs (fun b hb => h.fam.foot 1 vb b rfl hb)⟩
  exact h.fam.put (i := 1) rfl ha.own (fun k hk _ hn ⟨j, v, hv, hb⟩ => ha.kp k hk hn (fun e => h.nos hv (by rw [← e]; exact hb))) ha.hat
theorem St.short (h : St w F s mo va vb vs vw us A B S W) (ha : Ap w x s 3 vs u' y 54 #[.int .i64 (mo : Int), va, vb, vs, vw]) : St x (more F w x) s mo va vb u' vw us A B y W ∧ Ch w x F (more F w x) := by
  refine ⟨⟨ha.hR, h.far (i := 2) rfl ha, ?_, Or.inl h.fs, fun b hb => Or.inl (h.fw b hb)⟩, ha.ch h.fs (fun b hb => h.fam.foot 2 vs b rfl hb)⟩
  exact h.fam.put (i := 2) rfl ha.own (fun k hk _ hn ⟨j, v, hv, hb⟩ => ha.kp k hk hn (fun e => h.nos hv (by rw [← e]; exact hb))) ha.hat
/-- One of the lists of watches is turned. -/
theorem St.list (h : St w F s mo va vb vs vw us A B S W) {c R cap : Nat} {cr : Array Value} (hvw : vw = .slice (some ⟨R, 0, none⟩) us.length cap) (hcr : w.heap[R]? = some (.cells cr 27)) (hu : us[c]? = some u) (ha : Ap w x R c u u' y 27 cr) : St x (more F w x) s mo va vb vs vw (us.set c u') A B S (W.set c y) ∧ Ch w x F (more F w x) := by
  have hob : vw.ownBlock = some R := by rw [hvw]; rfl
  have hu3 : (va :: vb :: vs :: us)[c + 3]? = some u := by simpa using hu
  have hcl := (List.getElem?_eq_some_iff.1 hu).1
  refine ⟨⟨?_, ?_, ?_, Or.inl h.fs, fun b hb => Or.inl (h.fw b hb)⟩, ha.ch (h.fw R hob) (fun b hb => h.fam.foot (c + 3) u b hu3 hb)⟩
  · exact (ha.kp s h.lt (h.nos hu3) (fun e => h.ws (by rw [hob, e]))).trans h.hd
  · rcases h.row.2 with ⟨e, -⟩ | ⟨R', cap', cur, e, hb, hg, hc, hm, hs, ht⟩
    · rw [hvw] at e; cases e
    · have e2 := e
      rw [hvw] at e2
      injection e2 with e3 e4 e5
      injection e3 with e3
      injection e3 with e3
      subst e3 e5
      rw [hcr] at hg
      injection hg with hg
      injection hg with hg
      subst hg
      refine ⟨by simp, Or.inr ⟨R, cap, _, by rw [hvw]; simp, hb, ha.hR, by simpa using hc, hm, by simpa using hs, ?_⟩⟩
      rw [Array.toList_setIfInBounds, List.length_set]
      rw [Nat.mul_one] at ht ⊢
      rw [List.take_set, ht]
  · have := h.fam.put (i := c + 3) hu3 ha.own (fun k hk _ hn ⟨j, v, hv, hb⟩ => ha.kp k hk hn (fun e => h.now hv hob (by rw [← e]; exact hb))) ha.hat
    simp only [List.set_cons_succ] at this
    exact this
end
end Go.Proofs.Ytkndjndhjdfhcaa
