/- What is kept through a region that draws: the blocks that it reads, and those that it makes and fills. -/
import Derived.Test.YtkmkmgnfolpphaaDoorLin
import Derived.Below
import Derived.Laws.IdiomCopy
namespace Go.Proofs.YtkmkmgnfolpphaaDoor
open Go Go.RowKit

/-- The cells of a block. -/
def At (x : World) (b : Nat) (cs : List Value) : Prop := ∀ k v, cs[k]? = some v → x.cell? ⟨b, k, none⟩ = some v

theorem At.below {x x' : World} {b : Nat} {cs : List Value} (h : At x b cs) (hb : b < x.heap.size) (hx : Below x.heap.size x x') : At x' b cs :=
  fun k v hk => by rw [hx.cell (p := ⟨b, k, none⟩) hb]; exact h k v hk
theorem At.three {x : World} {b : Nat} {c d e : Value} (h0 : x.cell? ⟨b, 0, none⟩ = some c) (h1 : x.cell? ⟨b, 1, none⟩ = some d) (h2 : x.cell? ⟨b, 2, none⟩ = some e) : At x b [c, d, e] := by
  intro k v hk
  match k with
  | 0 => simp at hk; rw [← hk]; exact h0
  | 1 => simp at hk; rw [← hk]; exact h1
  | 2 => simp at hk; rw [← hk]; exact h2
  | k + 3 => simp at hk
theorem At.get3 {x : World} {b : Nat} {c d e : Value} (h : At x b [c, d, e]) : x.cell? ⟨b, 0, none⟩ = some c ∧ x.cell? ⟨b, 1, none⟩ = some d ∧ x.cell? ⟨b, 2, none⟩ = some e :=
  ⟨h 0 c rfl, h 1 d rfl, h 2 e rfl⟩

structure SS (w0 : World) (B : Nat) (own : List (Nat × List Value)) (pend : List (Nat × Nat × List Value)) (g : Nat → Nat) (L : Nat → Bool) (x : World) : Prop where
  below : Below w0.heap.size w0 x
  le : w0.heap.size ≤ B
  size : B ≤ x.heap.size
  own : ∀ p ∈ own, p.1 < B ∧ At x p.1 p.2
  made : ∀ q ∈ pend, L q.1 = true → B ≤ g q.1 ∧ g q.1 < x.heap.size ∧ (∀ o, x.frozen? ⟨g q.1, o, none⟩ = false) ∧ (∀ k, k < q.2.2.length → (x.cell? ⟨g q.1, k, none⟩).isSome = true)
  laid : ∀ q ∈ pend, L q.2.1 = true → L q.1 = true ∧ At x (g q.1) q.2.2
  apart : ∀ q ∈ pend, ∀ r ∈ pend, q.1 ≠ r.1 → L q.1 = true → L r.1 = true → g q.1 ≠ g r.1

variable {w0 x x' : World} {B i : Nat} {own : List (Nat × List Value)} {pend : List (Nat × Nat × List Value)} {g : Nat → Nat} {L : Nat → Bool}

theorem updB_ne {k : Nat} (h : k ≠ i) : updB L i k = L k := by simp [updB, h]
theorem updB_eq : updB L i i = true := by simp [updB]

/-- What only reads, computes, or makes memory of its own. -/
theorem SS.ext (h : SS w0 B own pend g L x) (hx : Below x.heap.size x x') (hi : (pend.all fun q => q.1 != i && q.2.1 != i) = true) : SS w0 B own pend g (updB L i) x' := by
  have hi' : ∀ q ∈ pend, q.1 ≠ i ∧ q.2.1 ≠ i := fun q hq => by simpa using List.all_eq_true.1 hi q hq
  refine ⟨h.below.trans (hx.mono h.below.size), h.le, Nat.le_trans h.size hx.size, fun p hp => ?_, fun q hq hL => ?_, fun q hq hL => ?_, fun q hq r hr hne hL hL' => ?_⟩
  · obtain ⟨h1, h2⟩ := h.own p hp
    exact ⟨h1, h2.below (Nat.lt_of_lt_of_le h1 h.size) hx⟩
  · rw [updB_ne (hi' q hq).1] at hL
    obtain ⟨h1, h2, h3, h4⟩ := h.made q hq hL
    exact ⟨h1, Nat.lt_of_lt_of_le h2 hx.size, fun o => by rw [hx.frozen (p := ⟨_, o, none⟩) h2]; exact h3 o, fun k hk => by rw [hx.cell (p := ⟨_, k, none⟩) h2]; exact h4 k hk⟩
  · rw [updB_ne (hi' q hq).2] at hL
    obtain ⟨h1, h2⟩ := h.laid q hq hL
    exact ⟨by rw [updB_ne (hi' q hq).1]; exact h1, h2.below (h.made q hq h1).2.1 hx⟩
  · rw [updB_ne (hi' q hq).1] at hL
    rw [updB_ne (hi' r hr).1] at hL'
    exact h.apart q hq r hr hne hL hL'

theorem SS.same (h : SS w0 B own pend g L x) (hi : (pend.all fun q => q.1 != i && q.2.1 != i) = true) : SS w0 B own pend g (updB L i) x := h.ext (Below.refl _ _) hi

def updG (g : Nat → Nat) (i b : Nat) : Nat → Nat := fun k => if k = i then b else g k
theorem updG_eq (b : Nat) : updG g i b i = b := by simp [updG]
theorem updG_ne {k : Nat} (b : Nat) (h : k ≠ i) : updG g i b k = g k := by simp [updG, h]

/-- A block is made. -/
theorem SS.alloc {c : Array Value} {ty : TypeId} (h : SS w0 B own pend g L x) (hL : L i = false) (hi : (pend.all fun q => q.2.1 != i && decide (q.2.2.length ≤ c.size)) = true) :
    SS w0 B own pend (updG g i x.heap.size) (updB L i) (x.alloc (.cells c ty)) := by
  have hi' : ∀ q ∈ pend, q.2.1 ≠ i ∧ q.2.2.length ≤ c.size := fun q hq => by simpa using List.all_eq_true.1 hi q hq
  have hx : Below x.heap.size x (x.alloc (.cells c ty)) := (Below.refl _ _).alloc (Nat.le_refl _) _
  refine ⟨h.below.trans (hx.mono h.below.size), h.le, Nat.le_trans h.size hx.size, fun p hp => ?_, fun q hq hLq => ?_, fun q hq hLq => ?_, fun q hq r hr hne hLq hLr => ?_⟩
  · obtain ⟨h1, h2⟩ := h.own p hp
    exact ⟨h1, h2.below (Nat.lt_of_lt_of_le h1 h.size) hx⟩
  · by_cases e : q.1 = i
    · rw [e, updG_eq]
      refine ⟨h.size, by simp, fun o => by simp, fun k hk => ?_⟩
      have hk' := Nat.lt_of_lt_of_le hk (hi' q hq).2
      simp [hk']
    · rw [updB_ne e] at hLq
      rw [updG_ne _ e]
      obtain ⟨h1, h2, h3, h4⟩ := h.made q hq hLq
      exact ⟨h1, Nat.lt_of_lt_of_le h2 hx.size, fun o => by rw [hx.frozen (p := ⟨_, o, none⟩) h2]; exact h3 o, fun k hk => by rw [hx.cell (p := ⟨_, k, none⟩) h2]; exact h4 k hk⟩
  · rw [updB_ne (hi' q hq).1] at hLq
    obtain ⟨h1, h2⟩ := h.laid q hq hLq
    have e : q.1 ≠ i := fun e => by rw [e, hL] at h1; cases h1
    rw [updB_ne e, updG_ne _ e]
    exact ⟨h1, h2.below (h.made q hq h1).2.1 hx⟩
  · by_cases e : q.1 = i
    · have e' : r.1 ≠ i := fun e' => hne (e.trans e'.symm)
      rw [updB_ne e'] at hLr
      rw [e, updG_eq, updG_ne _ e']
      exact Nat.ne_of_gt (h.made r hr hLr).2.1
    · rw [updB_ne e] at hLq
      by_cases e' : r.1 = i
      · rw [e', updG_eq, updG_ne _ e]
        exact Nat.ne_of_lt (h.made q hq hLq).2.1
      · rw [updB_ne e'] at hLr
        rw [updG_ne _ e, updG_ne _ e']
        exact h.apart q hq r hr hne hLq hLr

/-- A block is filled. -/
theorem setCells_size (b : Nat) : ∀ (vs : List Value) (o : Nat) (w : World), (w.setCells b o vs).heap.size = w.heap.size
  | [], _, _ => rfl
  | v :: r, o, w => by rw [World.setCells, setCells_size b r, World.size_setCell]
theorem setCells_below {B b : Nat} {w0 : World} : ∀ (vs : List Value) (o : Nat) (w : World), Below B w0 w → B ≤ b → Below B w0 (w.setCells b o vs)
  | [], _, _, h, _ => h
  | v :: r, o, w, h, hb => by rw [World.setCells]; exact setCells_below r (o + 1) _ (h.setCell hb v) hb

theorem SS.store {k : Nat} {cs : List Value} (h : SS w0 B own pend g L x) (hL : L k = true) (hq : (k, i, cs) ∈ pend) (hi : (pend.all fun q => q.1 != i && (q.2.1 != i || q.1 == k)) = true)
    (hone : ∀ q ∈ pend, q.1 = k → q.2.2 = cs) : SS w0 B own pend g (updB L i) (x.setCells (g k) 0 cs) := by
  have hi' : ∀ q ∈ pend, q.1 ≠ i ∧ (q.2.1 = i → q.1 = k) := fun q hq => by
    have := List.all_eq_true.1 hi q hq
    simp at this
    exact ⟨this.1, fun e => by rcases this.2 with h | h; exact absurd e h; exact h⟩
  obtain ⟨m1, m2, m3, m4⟩ := h.made _ hq hL
  simp only at m1 m2 m3 m4
  have keep : ∀ b k', b ≠ g k → (x.setCells (g k) 0 cs).cell? ⟨b, k', none⟩ = x.cell? ⟨b, k', none⟩ := fun b k' hne =>
    World.cell?_setCells_out _ _ _ _ _ (fun e => absurd e hne)
  have hfill : At (x.setCells (g k) 0 cs) (g k) cs := fun j v hj => by
    have hjl : j < cs.length := (List.getElem?_eq_some_iff.1 hj).1
    have := World.cell?_setCells_in (g k) cs 0 x (fun j hj => by simpa using m4 j hj) j hjl
    rw [Nat.zero_add] at this
    rw [this, ← hj]; simp [hjl]
  refine ⟨setCells_below _ _ _ h.below (Nat.le_trans h.le m1), h.le, by rw [setCells_size]; exact h.size, fun p hp => ?_, fun q hq' hLq => ?_, fun q hq' hLq => ?_, fun q hq' r hr hne hLq hLr => ?_⟩
  · obtain ⟨h1, h2⟩ := h.own p hp
    exact ⟨h1, fun j v hj => by rw [keep _ _ (by omega)]; exact h2 j v hj⟩
  · rw [updB_ne (hi' q hq').1] at hLq
    obtain ⟨h1, h2, h3, h4⟩ := h.made q hq' hLq
    refine ⟨h1, by rw [setCells_size]; exact h2, fun o => by rw [World.frozen?_setCells]; exact h3 o, fun j hj => ?_⟩
    by_cases e : g q.1 = g k
    · by_cases e2 : q.1 = k
      · rw [e]
        have hc := hone q hq' e2
        rw [hc] at hj
        rw [hfill j cs[j] (by simp [hj])]; rfl
      · exact absurd e (h.apart q hq' _ hq e2 hLq hL)
    · rw [keep _ _ e]; exact h4 j hj
  · rw [updB_ne (hi' q hq').1]
    by_cases e : q.1 = k
    · refine ⟨by rw [e]; exact hL, ?_⟩
      rw [e, hone q hq' e]; exact hfill
    · have e2 : q.2.1 ≠ i := fun e2 => e ((hi' q hq').2 e2)
      rw [updB_ne e2] at hLq
      obtain ⟨h1, h2⟩ := h.laid q hq' hLq
      exact ⟨h1, fun j v hj => by rw [keep _ _ (h.apart q hq' _ hq e h1 hL)]; exact h2 j v hj⟩
  · rw [updB_ne (hi' q hq').1] at hLq
    rw [updB_ne (hi' r hr).1] at hLr
    exact h.apart q hq' r hr hne hLq hLr

/-- The beginning. -/
theorem SS.start (hb : Below w0.heap.size w0 x) (h : ∀ p ∈ own, At x p.1 p.2 ∧ p.2 ≠ []) : SS w0 x.heap.size own pend g (fun _ => false) x.drew := by
  refine ⟨hb.drew, hb.size, Nat.le_refl _, fun p hp => ?_, fun _ _ h => (by cases h), fun _ _ h => (by cases h), fun _ _ _ _ _ h => (by cases h)⟩
  obtain ⟨h1, h2⟩ := h p hp
  refine ⟨?_, h1⟩
  cases hc : p.2 with
  | nil => exact absurd hc h2
  | cons c cs => exact World.block_lt_of_cell? x ⟨p.1, 0, none⟩ (h1 0 c (by rw [hc]; rfl))

theorem updG_al {al : List Nat} {b : Nat} (hal : al.contains i = true) : ∀ j, (j ≠ i ∨ al.contains i = false) → updG g i b j = g j := by
  rintro j (h | h)
  · exact updG_ne _ h
  · rw [hal] at h; cases h
theorem waits {o : Oper} (h : ∀ e ∈ o.after, Region.binds .any e = true → L e.on = true) (k : Nat) (hk : (o.after.any fun e => e.on == k && Region.binds .any e) = true) : L k = true := by
  obtain ⟨e, he, hb⟩ := Array.any_eq_true'.1 hk
  simp only [Bool.and_eq_true, beq_iff_eq] at hb
  rw [← hb.1]; exact h e he hb.2
theorem old_at {a b : Act} {t : Tmp} {v : Value} (e : a = b) (h : a.tmps[t]? = some v) : b.tmps[t]? = some v := by rw [← e]; exact h
theorem kept_none (j : Nat) : Below j x x := Below.refl _ _
/-- The world stays; it has grown. -/
theorem SS.go {al : List Nat} {K : Act → World → Prop} {a : Act} {d : Option Tmp} {v : (Nat → Nat) → Value} (h : SS w0 B own pend g L x) (hk : Shut (∀ (g' : Nat → Nat) (w' : World), (∀ j, (j ≠ i ∨ al.contains i = false) → g' j = g j) → SS w0 B own pend g' (updB L i) w' → K (a.put d (v g')) w')) (hi : (pend.all fun q => q.1 != i && q.2.1 != i) = true) : K (a.put d (v g)) x :=
  hk.out g x (fun _ _ => rfl) (h.same hi)
theorem SS.on {al : List Nat} {K : Act → World → Prop} {a : Act} {d : Option Tmp} {v : (Nat → Nat) → Value} (h : SS w0 B own pend g L x) (hk : Shut (∀ (g' : Nat → Nat) (w' : World), (∀ j, (j ≠ i ∨ al.contains i = false) → g' j = g j) → SS w0 B own pend g' (updB L i) w' → K (a.put d (v g')) w')) (hx : Below x.heap.size x x') (hi : (pend.all fun q => q.1 != i && q.2.1 != i) = true) : K (a.put d (v g)) x' :=
  hk.out g x' (fun _ _ => rfl) (h.ext hx hi)
end Go.Proofs.YtkmkmgnfolpphaaDoor
