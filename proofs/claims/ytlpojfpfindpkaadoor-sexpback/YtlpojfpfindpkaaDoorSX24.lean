/- A bracketed thing that is handed in: its tree. -/
import Derived.Test.YtlpojfpfindpkaaDoorSX21
import Derived.Deep.Slices
import Derived.ProofKit
import Derived.OpenShut
namespace Go.Proofs.YtlpojfpfindpkaaDoor
open Go.RowKit Go.ChangeShapes Go.WideShapes Go.Deep

mutual
/-- Its words are no longer than strings are. -/
def Sx.wk : Sx → Prop
  | .mk w _ ks => w.size ≤ maxLen ∧ wks ks
def wks : List Sx → Prop
  | [] => True
  | x :: r => x.wk ∧ wks r
end
theorem wks_get {ks : List Sx} (h : wks ks) : ∀ y ∈ ks, y.wk := by
  induction ks with
  | nil => intro y hy; cases hy
  | cons x r ih =>
    obtain ⟨h1, h2⟩ := h
    intro y hy
    rcases List.mem_cons.1 hy with rfl | hy
    · exact h1
    · exact ih h2 y hy
theorem wks_of {ks : List Sx} (h : ∀ y ∈ ks, y.wk) : wks ks := by
  induction ks with
  | nil => exact trivial
  | cons x r ih => exact ⟨h x (List.mem_cons_self ..), ih fun y hy => h y (List.mem_cons_of_mem _ hy)⟩
instance : Inhabited Sx := ⟨.mk ⟨#[]⟩ false []⟩
section
variable {H : Type} {enc : TypeId × Value → H} {w : World} {held : Bool}
theorem choose_two {n : Nat} {P : Nat → Sx → Value → Prop} (h : ∀ i, i < n → ∃ x u, P i x u) : ∃ (X : Nat → Sx) (U : Nat → Value), ∀ i, i < n → P i (X i) (U i) := by
  have h' : ∀ i, ∃ p : Sx × Value, i < n → P i p.1 p.2 := fun i => by
    by_cases hi : i < n
    · obtain ⟨x, u, hx⟩ := h i hi; exact ⟨(x, u), fun _ => hx⟩
    · exact ⟨(default, .bool false), fun hh => absurd hh hi⟩
  exact ⟨fun i => (Classical.choose (h' i)).1, fun i => (Classical.choose (h' i)).2, fun i hi => Classical.choose_spec (h' i) hi⟩
set_option maxRecDepth 20000 in
/-- What is handed in is a tree in memory. -/
theorem sexp_read_n : ∀ (N : Nat) {fuel : Nat} {cs : List Value} {x : DataW H × List MemPlace} (_ : SizeOf.sizeOf x.1 < N) (_ : DataW.trod enc Tryd.prog w 0 (fun _ => true) held fuel 35 cs = some x), ∃ (s : Sx) (u : Value), cs = [.string s.w, .bool s.l, u] ∧ s.wk ∧ Row w (fun b => b < w.heap.size) s.ks u := by
  intro N
  induction N with
  | zero => intro fuel cs x hN; omega
  | succ N ih =>
  intro fuel cs x hN h
  obtain ⟨xs, k, hfu, hxe, hl, hxl, hf⟩ := DataW.trod_struct Tryd.underlying35 h
  have e1 : Tryd.prog.cellsOf 9 = 1 := by kernel_rfl
  have e2 : Tryd.prog.cellsOf 4 = 1 := by kernel_rfl
  have e3 : Tryd.prog.cellsOf 23 = 1 := by kernel_rfl
  have e4 : Tryd.prog.cellsOf 35 = 3 := by kernel_rfl
  rw [e4] at hl
  have hxl3 : xs.length = 3 := hxl
  clear hxl
  match xs, hxl3, cs, hl with
  | [y0, y1, y2], _, [v0, v1, v2], _ =>
    have g0 := hf 0 _ rfl
    have g1 := hf 1 _ rfl
    have g2 := hf 2 _ rfl
    simp [e1, e2, e3] at g0 g1 g2
    obtain ⟨sw, h0, -, hsw⟩ := DataW.trod_string Tryd.underlying9 g0
    obtain ⟨sl, h1, -⟩ := DataW.trod_bool Tryd.underlying4 g1
    cases h0; cases h1
    have hy2 : SizeOf.sizeOf y2.1 < N := by
      have : SizeOf.sizeOf x.1 = 1 + SizeOf.sizeOf [y0.1, y1.1, y2.1] := by rw [hxe]; simp
      simp at this
      omega
    rcases open_slice Tryd.underlying23 g2 with ⟨h0, -⟩ | ⟨a, len, cap, m, nn, D, Pl, hcs, hb, hle, hm, hmm, hye, hx⟩
    · cases h0
      exact ⟨.mk sw sl [], _, rfl, ⟨hsw, trivial⟩, .nil _ _⟩
    · cases hcs
      simp only [if_true] at hmm
      subst hmm
      have each : ∀ i, i < len → ∃ (s : Sx) (u : Value), (w.cell? (a.add (i * 3)) = some (.string s.w) ∧ w.cell? (a.add (i * 3 + 1)) = some (.bool s.l) ∧ w.cell? (a.add (i * 3 + 2)) = some u) ∧ s.wk ∧ Row w (fun b => b < w.heap.size) s.ks u := by
        intro i hi
        obtain ⟨cs', h1, h2⟩ := hx i (by omega)
        have hsz : SizeOf.sizeOf (D i) < N := by
          have hin : D i ∈ (List.range len).map D := List.mem_map.2 ⟨i, List.mem_range.2 hi, rfl⟩
          have h3 := List.sizeOf_lt_of_mem hin
          have : SizeOf.sizeOf y2.1 = 1 + SizeOf.sizeOf ((List.range len).map D) + SizeOf.sizeOf ((List.range (m - len)).map fun j => D (len + j)) := by rw [hye]; simp
          omega
        obtain ⟨s, u, rfl, hwk, hR⟩ := ih (x := (D i, Pl i)) hsz h2
        rw [e4] at h1
        obtain ⟨_, hlen, hcell⟩ := World.cells?_some h1
        have c0 := hcell 0 (by decide)
        have c1 := hcell 1 (by decide)
        have c2 := hcell 2 (by decide)
        rw [add_add] at c0 c1 c2
        exact ⟨s, u, ⟨c0, c1, c2⟩, hwk, hR⟩
      obtain ⟨X, U, hXU⟩ := choose_two each
      by_cases hz : len = 0
      · subst hz
        exact ⟨.mk sw sl [], _, rfl, ⟨hsw, trivial⟩, .nil _ _⟩
      · obtain ⟨g, o, sp⟩ := a
        have hsp : sp = none := by
          have := (hXU 0 (by omega)).1.1
          cases sp with
          | none => rfl
          | some x => simp [World.cell?, Addr.add] at this; split at this <;> simp at this
        subst hsp
        have ead : ∀ j, (⟨g, o, none⟩ : Addr).add j = ⟨g, o + j, none⟩ := fun j => by by_cases hj0 : j = 0 <;> simp [Addr.add, hj0]
        have hgl : g < w.heap.size := by
          have := (hXU 0 (by omega)).1.1
          exact World.block_lt_of_cell? _ _ this
        have hlL : ((List.range len).map X).length = len := by simp
        have hat : ∀ (j : Nat) (x : Sx), ((List.range len).map X)[j]? = some x → j < len ∧ x = X j := by
          intro j x hj
          have hjl : j < len := by have := (List.getElem?_eq_some_iff.1 hj).1; simpa using this
          simp [hjl] at hj
          exact ⟨hjl, hj.symm⟩
        refine ⟨.mk sw sl ((List.range len).map X), _, rfl, ⟨hsw, wks_of fun y hy => ?_⟩, ?_⟩
        · obtain ⟨i, hi, rfl⟩ := List.mem_map.1 hy
          exact (hXU i (List.mem_range.1 hi)).2.1
        · have hR : Row w (fun b => b < w.heap.size) ((List.range len).map X) (.slice (some ⟨g, o, none⟩) ((List.range len).map X).length m) := by
            refine .some g o m _ U hgl (by rw [hlL]; omega) (fun j x hj => ?_) (fun j x hj => ?_)
            · obtain ⟨hjl, rfl⟩ := hat j x hj
              have := (hXU j hjl).1
              rw [ead, ead, ead] at this
              exact ⟨this.1, by rw [Nat.add_assoc]; exact this.2.1, by rw [Nat.add_assoc]; exact this.2.2⟩
            · obtain ⟨hjl, rfl⟩ := hat j x hj
              exact (hXU j hjl).2.2
          rw [hlL] at hR
          exact hR
theorem sexp_read {fuel : Nat} {cs : List Value} {x : DataW H × List MemPlace} (h : DataW.trod enc Tryd.prog w 0 (fun _ => true) held fuel 35 cs = some x) : ∃ (s : Sx) (u : Value), cs = [.string s.w, .bool s.l, u] ∧ s.wk ∧ Row w (fun b => b < w.heap.size) s.ks u := sexp_read_n _ (Nat.lt_succ_self _) h
end
end Go.Proofs.YtlpojfpfindpkaaDoor
