/- Contracts (the laws): an assignment by its number. · Contracts (the document's tables): the same, set, does it hang on a variable. · Contracts (the document's tables): with, Hangs, Top. · Contracts (the document's tables): the first variable that a table hangs on. · Tables and diagrams: equal tables are equal numbers; the first variable. · Contracts (the document's tables): the same, a call that only draws. · Drawn regions that read and call what only adds blocks. -/
import Derived.Test.YtohfjpahdoodgaaGreatDoorMg35
namespace Go.Proofs.YtohfjpahdoodgaaGreatDoor
open Go.RowKit
set_option linter.unusedSimpArgs false
set_option linter.unusedVariables false

def inF (n k : Nat) : List Bool := (List.range n).map fun i => bt k i
theorem inF_len (n k : Nat) : (inF n k).length = n := by simp [inF]
theorem asg_in {n k : Nat} (i : Nat) (hi : i < n) : asg (inF n k) (i : Int) = bt k i := by
  unfold asg inF
  rw [Int.toNat_natCast, List.getD_eq_getElem?_getD, List.getElem?_map, List.getElem?_range hi]
  rfl
theorem Bo.bz {w : World} {B : Nat} {v : Value} {l : List Bool} (h : Bo w B v l) : Bz w v l := by
  rcases h.row.2 with ⟨e, h0⟩ | ⟨r, cap, cur, e, hb, hg, hc, hm, hs, ht⟩
  · exact ⟨none, 0, by rw [e, h0], Or.inl (List.eq_nil_of_length_eq_zero h0)⟩
  · refine ⟨some ⟨r, 0, none⟩, cap, e, Or.inr ⟨r, 0, rfl, blk_lt hg, fun j hj => ?_⟩⟩
    have h' := h
    rw [e] at h'
    rw [Nat.zero_add]
    exact (h'.put hj).1
end Go.Proofs.YtohfjpahdoodgaaGreatDoor
namespace Go.Proofs.YtohfjpahdoodgaaGreatDoor
open Go.RowKit

/-- The number of an assignment with one variable set. -/
def wi (k i : Nat) (b : Bool) : Nat := k - k / 2 ^ i % 2 * 2 ^ i + (if b then 2 ^ i else 0)
theorem wi_bits : ∀ k : Nat, k < 128 → ∀ i : Nat, i < 7 → bits .andNot .i64 (k : Int) (N2 i : Int) = ((wi k i false : Nat) : Int) ∧ bits .or .i64 ((wi k i false : Nat) : Int) (N2 i : Int) = ((wi k i true : Nat) : Int) := by decide +kernel
theorem wi_lt : ∀ n : Nat, n < 8 → ∀ i : Nat, i < n → ∀ k : Nat, k < 2 ^ n → wi k i false < 2 ^ n ∧ wi k i true < 2 ^ n := by decide +kernel
theorem wi_bt0 : ∀ k : Nat, k < 128 → ∀ i : Nat, i < 7 → ∀ j : Nat, j < 7 → Nat.testBit (wi k i false) j = (if j = i then false else Nat.testBit k j) ∧ Nat.testBit (wi k i true) j = (if j = i then true else Nat.testBit k j) := by decide +kernel
theorem wi_bt {k i : Nat} (hk : k < 128) (hi : i < 7) (b : Bool) (j : Nat) : bt (wi k i b) j = if j = i then b else bt k j := by
  have hl := wi_lt 7 (by decide) i hi k hk
  have hw : wi k i b < 128 := by cases b; exact hl.1; exact hl.2
  rw [bt_eq (by omega), bt_eq (by omega)]
  by_cases hj : j < 7
  · have := wi_bt0 k hk i hi j hj
    cases b
    · exact this.1
    · exact this.2
  · rw [if_neg (by omega), Nat.testBit_lt_two_pow (Nat.lt_of_lt_of_le hw (Nat.pow_le_pow_right (n := 2) (i := 7) (by decide) (by omega))), Nat.testBit_lt_two_pow (Nat.lt_of_lt_of_le hk (Nat.pow_le_pow_right (n := 2) (i := 7) (by decide) (by omega)))]
def withT (l : List Bool) (i : Nat) (b : Bool) : List Bool := (List.range l.length).map fun k => l.getD (wi k i b) false
def updA (x : Int → Bool) (i : Nat) (b : Bool) : Int → Bool := fun j => if j.toNat = i then b else x j
theorem tabV_with {n i : Nat} (hn : n ≤ 7) (hi : i < n) (b : Bool) (V : (Int → Bool) → Bool) : withT (tabV n V) i b = tabV n (fun x => V (updA x i b)) := by
  unfold withT
  rw [tabV_len]
  refine List.map_congr_left fun k hk => ?_
  have hk' := List.mem_range.1 hk
  have hk2 : k < 2 ^ n := hk'
  have hl := wi_lt n (by omega) i hi k hk2
  have hw : wi k i b < N2 n := by cases b; exact hl.1; exact hl.2
  rw [tabV_get V hw]
  have h128 : k < 128 := Nat.lt_of_lt_of_le hk2 (n2_le hn).1
  congr 1
  funext j
  rw [wi_bt h128 (by omega) b]
  rfl
end Go.Proofs.YtohfjpahdoodgaaGreatDoor
namespace Go.Proofs.YtohfjpahdoodgaaGreatDoor
open Go.RowKit

/-- Does it hang on the variable? -/
def hangT (l : List Bool) (i : Nat) : Bool := !decide (withT l i false = withT l i true)
theorem withT_len (l : List Bool) (i : Nat) (b : Bool) : (withT l i b).length = l.length := by simp [withT]
theorem Tn.bz {w w' : World} {v : Value} {l : List Bool} (h : Tn w w' v l) : Bz w' v l := h.bo.bz
end Go.Proofs.YtohfjpahdoodgaaGreatDoor
namespace Go.Proofs.YtohfjpahdoodgaaGreatDoor
open Go.RowKit

/-- The first variable that it hangs on, from i on; n: none. -/
def topFrom (l : List Bool) (n : Nat) : Nat → Nat → Nat
  | 0, i => i
  | m + 1, i => if hangT l i then i else topFrom l n m (i + 1)
def topT (l : List Bool) (n : Nat) : Nat := topFrom l n n 0
theorem topFrom_spec (l : List Bool) (n : Nat) : ∀ (m i : Nat), i ≤ topFrom l n m i ∧ topFrom l n m i ≤ i + m ∧ (∀ j, i ≤ j → j < topFrom l n m i → hangT l j = false) ∧ (topFrom l n m i < i + m → hangT l (topFrom l n m i) = true)
  | 0, i => ⟨Nat.le_refl _, Nat.le_refl _, (fun j h1 h2 => by simp only [topFrom] at h2; omega), fun h => by simp only [topFrom] at h; omega⟩
  | m + 1, i => by
    unfold topFrom
    by_cases h : hangT l i = true
    · rw [if_pos h]; exact ⟨Nat.le_refl _, by omega, fun j h1 h2 => by omega, fun _ => h⟩
    · rw [if_neg h]
      obtain ⟨h1, h2, h3, h4⟩ := topFrom_spec l n m (i + 1)
      refine ⟨by omega, by omega, fun j h5 h6 => ?_, fun h5 => h4 (by omega)⟩
      by_cases e : j = i
      · subst e; simpa using h
      · exact h3 j (by omega) h6
end Go.Proofs.YtohfjpahdoodgaaGreatDoor
namespace Go.Proofs.YtohfjpahdoodgaaGreatDoor

theorem enc_upto {n : Nat} (hn : n ≤ 7) (x : Int → Bool) : ∀ m, m ≤ n → ∃ k, k < 2 ^ n ∧ ∀ j, j < m → bt k j = x (j : Int)
  | 0, _ => ⟨0, Nat.two_pow_pos n, fun j hj => by omega⟩
  | m + 1, hm => by
    obtain ⟨k, hk, h⟩ := enc_upto hn x m (by omega)
    have hl := wi_lt n (by omega) m (by omega) k hk
    have h128 : k < 128 := Nat.lt_of_lt_of_le hk (n2_le hn).1
    refine ⟨wi k m (x (m : Int)), ?_, fun j hj => ?_⟩
    · cases x (m : Int)
      · exact hl.1
      · exact hl.2
    · rw [wi_bt h128 (by omega)]
      by_cases e : j = m
      · rw [if_pos e, e]
      · rw [if_neg e]; exact h j (by omega)
theorem enc {n : Nat} (hn : n ≤ 7) (x : Int → Bool) : ∃ k, k < 2 ^ n ∧ ∀ j, j < n → bt k j = x (j : Int) := enc_upto hn x n (Nat.le_refl _)
section
variable {n : Nat} {ns : List T3} {sp : List Int}
theorem val_cg (g : Good n ns sp) {i : Int} (hi : alive ns i) {x y : Int → Bool} (h : ∀ k, (at3 ns i).1 ≤ k → k < n → x k = y k) : val n ns x i = val n ns y i :=
  val_congr g (n + 1) i hi (by have := (g.var hi).1; omega) h
/-- What holds of all numbered assignments holds of all. -/
theorem all_enc (hn : n ≤ 7) (g : Good n ns sp) {i j : Int} (hi : alive ns i) (hj : alive ns j) (h : ∀ k, k < N2 n → val n ns (fun q => bt k q.toNat) i = val n ns (fun q => bt k q.toNat) j) (x : Int → Bool) : val n ns x i = val n ns x j := by
  obtain ⟨k, hk, he⟩ := enc hn x
  have e : ∀ q : Int, 0 ≤ q → q < n → x q = bt k q.toNat := fun q h0 h1 => by
    have := he q.toNat (by omega)
    rw [this, Int.toNat_of_nonneg h0]
  rw [val_cg g hi (y := fun q => bt k q.toNat) (fun q h1 h2 => e q (by have := (g.var hi).1; omega) h2), val_cg g hj (y := fun q => bt k q.toNat) (fun q h1 h2 => e q (by have := (g.var hj).1; omega) h2)]
  exact h k hk
theorem tab_eq (hn : n ≤ 7) (g : Good n ns sp) {i j : Int} (hi : alive ns i) (hj : alive ns j) : tabV n (fun x => val n ns x i) = tabV n (fun x => val n ns x j) ↔ i = j := by
  constructor
  · intro h
    refine val_eq g hi hj (all_enc hn g hi hj fun k hk => ?_)
    have h1 := tabV_get (n := n) (fun x => val n ns x i) hk
    have h2 := tabV_get (n := n) (fun x => val n ns x j) hk
    rw [h, h2] at h1
    exact h1.symm
  · rintro rfl; rfl
theorem hang_no (hn : n ≤ 7) (g : Good n ns sp) {f : Int} (hf : alive ns f) {i : Nat} (hi : i < n) (hlt : (i : Int) < (at3 ns f).1) : hangT (tabV n (fun x => val n ns x f)) i = false := by
  unfold hangT
  rw [tabV_with hn hi, tabV_with hn hi, tabV_congr (B := fun x => val n ns (updA x i true) f) (fun x => ?_)]
  · simp
  · refine val_cg g hf fun k h1 h2 => ?_
    unfold updA
    rw [if_neg (by omega), if_neg (by omega)]
theorem hang_yes (hn : n ≤ 7) (g : Good n ns sp) {f : Int} (hf : alive ns f) (h2 : 2 ≤ f) {i : Nat} (hi : (i : Int) = (at3 ns f).1) : hangT (tabV n (fun x => val n ns x f)) i = true := by
  obtain ⟨q1, q2, q3, q4, q5, q6, q7⟩ := g.nd f h2 hf
  have hin : i < n := by omega
  cases hh : hangT (tabV n (fun x => val n ns x f)) i with
  | true => rfl
  | false =>
    exfalso
    unfold hangT at hh
    rw [tabV_with hn hin, tabV_with hn hin] at hh
    have he : tabV n (fun x => val n ns (updA x i false) f) = tabV n (fun x => val n ns (updA x i true) f) := by simpa using hh
    refine q3 (val_eq g q4 q5 (all_enc hn g q4 q5 fun k hk => ?_))
    have h1 := tabV_get (n := n) (fun x => val n ns (updA x i false) f) hk
    have h3 := tabV_get (n := n) (fun x => val n ns (updA x i true) f) hk
    rw [he, h3] at h1
    have e1 := val_step g (updA (fun q => bt k q.toNat) i false) hf h2
    have e2 := val_step g (updA (fun q => bt k q.toNat) i true) hf h2
    have u1 : updA (fun q => bt k q.toNat) i false (at3 ns f).1 = false := by unfold updA; rw [if_pos (by omega)]
    have u2 : updA (fun q => bt k q.toNat) i true (at3 ns f).1 = true := by unfold updA; rw [if_pos (by omega)]
    rw [u1, if_neg (by decide)] at e1
    rw [u2, if_pos rfl] at e2
    have c1 : val n ns (updA (fun q => bt k q.toNat) i false) (at3 ns f).2.1 = val n ns (fun q => bt k q.toNat) (at3 ns f).2.1 := val_cg g q4 fun q h4 h5 => by unfold updA; rw [if_neg (by omega)]
    have c2 : val n ns (updA (fun q => bt k q.toNat) i true) (at3 ns f).2.2 = val n ns (fun q => bt k q.toNat) (at3 ns f).2.2 := val_cg g q5 fun q h4 h5 => by unfold updA; rw [if_neg (by omega)]
    rw [← c1, ← e1, ← c2, ← e2]
    exact h1.symm
/-- The first variable that a diagram's table hangs on is its node's. -/
theorem top_tab (hn : n ≤ 7) (g : Good n ns sp) {f : Int} (hf : alive ns f) : (topT (tabV n (fun x => val n ns x f)) n : Int) = (at3 ns f).1 := by
  obtain ⟨v0, v1⟩ := g.var hf
  obtain ⟨t1, t2, t3, t4⟩ := topFrom_spec (tabV n (fun x => val n ns x f)) n n 0
  unfold topT
  generalize topFrom (tabV n (fun x => val n ns x f)) n n 0 = t at *
  rcases (show (t : Int) < (at3 ns f).1 ∨ (t : Int) = (at3 ns f).1 ∨ (at3 ns f).1 < (t : Int) by omega) with h | h | h
  · have := t4 (by omega)
    rw [hang_no hn g hf (by omega) h] at this
    cases this
  · exact h
  · have h2 := g.top hf (by omega)
    have := t3 (at3 ns f).1.toNat (by omega) (by omega)
    rw [hang_yes hn g hf h2 (by omega)] at this
    cases this
end
end Go.Proofs.YtohfjpahdoodgaaGreatDoor
namespace Go.Proofs.YtohfjpahdoodgaaGreatDoor
open Go.RowKit

end Go.Proofs.YtohfjpahdoodgaaGreatDoor
namespace Go.Proofs.YtohfjpahdoodgaaGreatDoor
open Go.RowKit
structure BW (W : World) (g : Nat → Nat) (D : Nat → Bool) (x : World) : Prop where
  bel : Below W.heap.size W x
section
variable {W x y : World} {g g' : Nat → Nat} {D D' : Nat → Bool}
theorem BW.start : BW W g D W.drew := ⟨⟨rfl, rfl, rfl, Nat.le_refl _, fun _ _ => rfl⟩⟩
theorem BW.go (h : BW W g D x) : BW W g' D' x := ⟨h.bel⟩
theorem BW.called (h : BW W g D x) (hb : Below x.heap.size x y) : BW W g' D' y := ⟨h.bel.trans (hb.mono h.bel.size)⟩
end
/-- An assignment's list is made on the way, by the operation ci. -/
structure IW (W : World) (ci n : Nat) (l : List Bool) (g : Nat → Nat) (D : Nat → Bool) (x : World) : Prop where
  bel : Below W.heap.size W x
  i : D ci = true → Bz x (sl n (g ci)) l
section
variable {W x y : World} {ci n i p : Nat} {l : List Bool} {g : Nat → Nat} {D : Nat → Bool}
theorem IW.start : IW W ci n l (fun _ => 0) (fun _ => false) W.drew := ⟨⟨rfl, rfl, rfl, Nat.le_refl _, fun _ _ => rfl⟩, fun e => nomatch e⟩
theorem IW.go (h : IW W ci n l g D x) (hi : (i != ci) = true) : IW W ci n l g (updB D i) x := by
  have u1 := updB_ne (L := D) (i := i) (k := ci) (by intro e; simp [e] at hi)
  exact ⟨h.bel, by rw [u1]; exact h.i⟩
theorem IW.called (h : IW W ci n l g D x) (hi : (i != ci) = true) (hb : Below x.heap.size x y) : IW W ci n l g (updB D i) y := by
  have u1 := updB_ne (L := D) (i := i) (k := ci) (by intro e; simp [e] at hi)
  exact ⟨h.bel.trans (hb.mono h.bel.size), by rw [u1]; exact fun e => (h.i e).bel hb⟩
theorem IW.made (h : IW W ci n l g D x) (hb : Below x.heap.size x y) (hv : Bz y (sl n p) l) : IW W ci n l (updG g ci p) (updB D ci) y :=
  ⟨h.bel.trans (hb.mono h.bel.size), fun _ => by rw [updG_eq]; exact hv⟩
end
/-- What a diagram is worth under an assignment's list. -/
theorem val_in {n k : Nat} {ns : List T3} {sp : List Int} (g : Good n ns sp) {f : Int} (hf : alive ns f) : val n ns (asg (inF n k)) f = val n ns (fun i => bt k i.toNat) f := by
  refine val_cg g hf fun q h1 h2 => ?_
  have h0 := (g.var hf).1
  have := asg_in (n := n) (k := k) q.toNat (by omega)
  rwa [Int.toNat_of_nonneg (by omega)] at this
theorem Hl.get' {w : World} {F : Nat → Prop} {B rl M cl : Nat} {H : List HT} (h : Hl w F B (.slice (some ⟨rl, 0, none⟩) M cl) H) {j : Nat} {p : HT} (hp : H[j]? = some p) : rl < w.heap.size ∧ w.cell? ⟨rl, j * 2, none⟩ = some (.int .i64 p.1) ∧ w.cell? ⟨rl, j * 2 + 1, none⟩ = some p.2.1 := by
  obtain ⟨r, c, e, h1, h2, h3⟩ := h.get hp
  injection e with e _ _
  injection e with e
  injection e with e
  subst e
  exact ⟨h1, h2, h3⟩
end Go.Proofs.YtohfjpahdoodgaaGreatDoor
