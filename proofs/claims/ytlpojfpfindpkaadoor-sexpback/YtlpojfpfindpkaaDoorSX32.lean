/- Things in a slice that is handed in; blanks and remarks between things. -/
import Derived.Test.YtlpojfpfindpkaaDoorSX31
namespace Go.Proofs.YtlpojfpfindpkaaDoor
open Go.RowKit Go.ChangeShapes Go.WideShapes Go.Deep

section
variable {H : Type} {enc : TypeId × Value → H} {w : World} {held : Bool}
set_option maxRecDepth 20000 in
theorem rows_read {fuel : Nat} {s0 : Option Addr} {len cap : Nat} {x : DataW H × List MemPlace} (h : DataW.trod enc Tryd.prog w 0 (fun _ => true) held fuel 23 [.slice s0 len cap] = some x) :
    ∃ ks : List Sx, ks.length = len ∧ wks ks ∧ Row w (fun b => b < w.heap.size) ks (.slice s0 len cap) := by
  have e4 : Tryd.prog.cellsOf 35 = 3 := by kernel_rfl
  rcases open_slice Tryd.underlying23 h with ⟨h0, -⟩ | ⟨a, len', cap', m, nn, D, Pl, hcs, hb, hle, hm, hmm, hye, hx⟩
  · cases h0
    exact ⟨[], rfl, trivial, .nil _ _⟩
  · cases hcs
    simp only [if_true] at hmm
    subst hmm
    have each : ∀ i, i < len → ∃ (s : Sx) (u : Value), (w.cell? (a.add (i * 3)) = some (.string s.w) ∧ w.cell? (a.add (i * 3 + 1)) = some (.bool s.l) ∧ w.cell? (a.add (i * 3 + 2)) = some u) ∧ s.wk ∧ Row w (fun b => b < w.heap.size) s.ks u := by
      intro i hi
      obtain ⟨cs', h1, h2⟩ := hx i (by omega)
      obtain ⟨s, u, rfl, hwk, hR⟩ := sexp_read h2
      rw [e4] at h1
      obtain ⟨_, hlen, hcell⟩ := World.cells?_some h1
      have c0 := hcell 0 (by decide)
      have c1 := hcell 1 (by decide)
      have c2 := hcell 2 (by decide)
      rw [add_add] at c0 c1 c2
      exact ⟨s, u, ⟨c0, c1, c2⟩, hwk, hR⟩
    obtain ⟨X, U, hXU⟩ := choose_two each
    by_cases hz : len = 0
    · subst hz
      exact ⟨[], rfl, trivial, .nil _ _⟩
    · obtain ⟨g, o, sp⟩ := a
      have hsp : sp = none := by
        have := (hXU 0 (by omega)).1.1
        cases sp with
        | none => rfl
        | some x => simp [World.cell?, Addr.add] at this; split at this <;> simp at this
      subst hsp
      have ead : ∀ j, (⟨g, o, none⟩ : Addr).add j = ⟨g, o + j, none⟩ := fun j => by by_cases hj0 : j = 0 <;> simp [Addr.add, hj0]
      have hgl : g < w.heap.size := by
        have := (hXU 0 (by omega)).1.1
        exact World.block_lt_of_cell? _ _ this
      have hlL : ((List.range len).map X).length = len := by simp
      have hat : ∀ (j : Nat) (x : Sx), ((List.range len).map X)[j]? = some x → j < len ∧ x = X j := by
        intro j x hj
        have hjl : j < len := by have := (List.getElem?_eq_some_iff.1 hj).1; simpa using this
        simp [hjl] at hj
        exact ⟨hjl, hj.symm⟩
      refine ⟨(List.range len).map X, hlL, wks_of fun y hy => ?_, ?_⟩
      · obtain ⟨i, hi, rfl⟩ := List.mem_map.1 hy
        exact (hXU i (List.mem_range.1 hi)).2.1
      · have hR : Row w (fun b => b < w.heap.size) ((List.range len).map X) (.slice (some ⟨g, o, none⟩) ((List.range len).map X).length m) := by
          refine .some g o m _ U hgl (by rw [hlL]; omega) (fun j x hj => ?_) (fun j x hj => ?_)
          · obtain ⟨hjl, rfl⟩ := hat j x hj
            have := (hXU j hjl).1
            rw [ead, ead, ead] at this
            exact ⟨this.1, by rw [Nat.add_assoc]; exact this.2.1, by rw [Nat.add_assoc]; exact this.2.2⟩
          · obtain ⟨hjl, rfl⟩ := hat j x hj
            exact (hXU j hjl).2.2
        rw [hlL] at hR
        exact hR
end
/-- What has been written so far is read as these things. -/
def Bl (T : ByteArray) (ks : List Sx) : Prop := rd s0 T.data.toList = ⟨T.size, [(0, ks)], .no⟩
theorem bl_first : Bl ⟨#[59, 32, 102, 105, 114, 115, 116, 32, 41, 40, 10]⟩ [] := rfl
def seps : List (List UInt8) := [[32], [9, 13, 10, 32], [10, 59, 124, 32, 40, 10], [32, 59, 32, 41, 10, 10]]
theorem rd_sep {l : List UInt8} (hl : l ∈ seps) {s : Ps} {S : Stk} (h : Sd s S) : rd s l = ⟨s.pos + l.length, S, .no⟩ := by
  simp only [seps, List.mem_cons, List.not_mem_nil, or_false] at hl
  rcases hl with rfl | rfl | rfl | rfl
  · rw [rd_cons, h.blank rfl]; rfl
  · rw [rd_cons, h.blank rfl]; rfl
  · rw [rd_cons, h.blank rfl]; rfl
  · rw [rd_cons, h.blank rfl]; rfl
theorem bl_put {T : ByteArray} {ks : List Sx} {y : Sx} {l : List UInt8} (h : Bl T ks) (hy : y.cl 100 = true) (hl : l ∈ seps) : Bl (T ++ tx y.prt ++ ⟨l.toArray⟩) (ks ++ [y]) := by
  unfold Bl at h ⊢
  have e : (T ++ tx y.prt ++ ⟨l.toArray⟩ : ByteArray).data.toList = T.data.toList ++ (y.prt ++ l) := by
    rw [ByteArray.data_append, ByteArray.data_append]
    show (T.data ++ y.prt.toArray ++ l.toArray).toList = _
    simp
  have es : (T ++ tx y.prt ++ ⟨l.toArray⟩ : ByteArray).size = T.size + y.prt.length + l.length := by
    have := congrArg List.length e
    rw [len_t] at this
    rw [this]; simp; omega
  rw [e, es, rd_app, h, rd_app]
  have h1 := rd_prt y (d := 100) (p := T.size) (st := [(0, ks)]) hy (by simp) (by simp)
  rw [rd_sep hl h1, rd_pos]
  rfl
theorem bl_end {T : ByteArray} {ks : List Sx} (h : Bl T ks) (hT : T.size + 4 ≤ 65536) : pars (T ++ ⟨#[59, 101, 110, 100]⟩) = (ks, 0, 0) := by
  unfold Bl at h
  have e : (T ++ ⟨#[59, 101, 110, 100]⟩ : ByteArray).data.toList = T.data.toList ++ [59, 101, 110, 100] := by
    rw [ByteArray.data_append]; simp
  have es : (T ++ ⟨#[59, 101, 110, 100]⟩ : ByteArray).size = T.size + 4 := by
    have := congrArg List.length e
    rw [len_t] at this
    rw [this]; simp
  unfold pars
  rw [if_neg (by rw [es]; omega), e, rd_app, h]
  rfl
theorem and3 (z : Int) : ∃ v : Int, bits .and .i64 z 3 = v ∧ (v = 0 ∨ v = 1 ∨ v = 2 ∨ v = 3) := by
  have h1 : bits .and .i64 z 3 = IntKind.i64.wrap (((BitVec.ofInt 64 z &&& BitVec.ofInt 64 3).toNat : Nat) : Int) := rfl
  have h2 : (BitVec.ofInt 64 z &&& BitVec.ofInt 64 3).toNat ≤ 3 := by
    rw [BitVec.toNat_and]; exact Nat.and_le_right
  refine ⟨_, h1, ?_⟩
  rw [wrapN (by omega)]
  omega
end Go.Proofs.YtlpojfpfindpkaaDoor
