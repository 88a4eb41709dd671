/- Contracts (the law): the chain's steps in the manager. -/
import Derived.Test.YtkmkmgnfolpphaaDoorDE26
import Derived.Test.YtkmkmgnfolpphaaDoorDW6
import Derived.Test.YtkmkmgnfolpphaaDoorDW9
import Derived.Test.YtkmkmgnfolpphaaDoorDW11
namespace Go.Proofs.YtkmkmgnfolpphaaDoor
open Go.RowKit
set_option linter.unusedSimpArgs false
set_option linter.unusedVariables false

/-- The law's manager; made behind w0. -/
structure Cg (w0 w : World) (g V : Nat) (S : St) : Prop where
  bel : Below w0.heap.size w0 w
  ex : ∃ F, Gr w F g V 16384 S pz ∧ ∀ k, F k → w0.heap.size ≤ k
section
variable {w0 w : World} {g V : Nat} {S S' : St} {f r : Int}
theorem Cg.beyond {w' : World} (h : Cg w0 w g V S) (hb : Below w.heap.size w w') : Cg w0 w' g V S := by
  obtain ⟨F, h1, h2⟩ := h.ex
  exact ⟨h.bel.trans (hb.mono h.bel.size), F, h1.below hb, h2⟩
theorem cp2 {ns : List T3} : ∀ p ∈ ([] : List Int), alive ns p := fun _ hp => nomatch hp
theorem cg_var {i : Int} (h : Cg w0 w g V S) (hsp : S.sp = []) (hq : nodeR 16384 S i 0 1 = some (r, S')) (hi : 0 ≤ i ∧ i < (V : Int)) :
    Calls Tryd.prog 22 #[.pointer (some ⟨g, 0, none⟩), .int .i64 i] w fun e w' => e = .returned (.tuple #[.int .i64 r, .int .i64 0]) ∧ Cg w0 w' g V S' := by
  obtain ⟨F, h1, h2⟩ := h.ex
  obtain ⟨e1, e2⟩ := nodeR_eq hq ([] ++ valsR [] ++ [])
  have hV : varF V 16384 [] S i = (r, 0, S') := by unfold varF; rw [if_pos hi, e1]; rfl
  refine (var_any nodeC_no h1 i pz_p1 cp2 ?_).mono fun e' w' hr => ?_
  · rw [hV]; exact Or.inr ⟨hsp, e2⟩
  · rw [hV] at hr
    obtain ⟨r1, -, F', r3, r4⟩ := hr
    obtain ⟨q1, q2⟩ := r4.low h.bel h2
    exact ⟨r1, q1, F', r3, q2⟩
theorem cg_f {q : T3} {O : List Int} (hO : ∀ i ∈ O, alive S.ns i) (hq : ansQ V 16384 S q = some (r, S')) : ansF V 16384 [] S q O = (r, 0, S') ∧ S'.gone = S.gone := by
  unfold ansQ at hq
  obtain ⟨⟨f', S'', R'⟩, e1, e2⟩ := Option.map_eq_some_iff.1 hq
  cases e2
  obtain ⟨e3, e4⟩ := solveR_eq _ _ _ _ _ _ _ e1 [] O
  refine ⟨?_, e4⟩
  unfold ansF
  rw [if_pos hO, e3]
theorem cg_ans {q : T3} {O : List Int} {e : Ending} {w' : World} {F : Nat → Prop} (h : Cg w0 w g V S) (h2 : ∀ k, F k → w0.heap.size ≤ k) (hV : ansF V 16384 [] S q O = (r, 0, S')) (hr : OpR false w F g V 16384 S pz (ansF V 16384 [] S q O) e w') :
    e = .returned (.tuple #[.int .i64 r, .int .i64 0]) ∧ Cg w0 w' g V S' := by
  rw [hV] at hr
  obtain ⟨r1, -, F', r3, r4⟩ := hr
  obtain ⟨q1, q2⟩ := r4.low h.bel h2
  exact ⟨r1, q1, F', r3, q2⟩
theorem cg_not (h : Cg w0 w g V S) (hsp : S.sp = []) (hf : alive S.ns f) (hq : ansQ V 16384 S (f, 0, 1) = some (r, S')) :
    Calls Tryd.prog 24 #[.pointer (some ⟨g, 0, none⟩), .int .i64 f] w fun e w' => e = .returned (.tuple #[.int .i64 r, .int .i64 0]) ∧ Cg w0 w' g V S' := by
  obtain ⟨F, h1, h2⟩ := h.ex
  obtain ⟨hV, hg⟩ := cg_f (O := [f]) (by simpa using hf) hq
  exact (not_any ansC_no h1 f pz_p1 cp2 (by rw [hV]; exact Or.inr ⟨hsp, hg⟩)).mono fun e' w' hr => cg_ans h h2 hV hr
theorem cg_and {f2 : Int} (h : Cg w0 w g V S) (hsp : S.sp = []) (hf : alive S.ns f ∧ alive S.ns f2) (hq : ansQ V 16384 S (f, f2, 0) = some (r, S')) :
    Calls Tryd.prog 23 #[.pointer (some ⟨g, 0, none⟩), .int .i64 f, .int .i64 f2] w fun e w' => e = .returned (.tuple #[.int .i64 r, .int .i64 0]) ∧ Cg w0 w' g V S' := by
  obtain ⟨F, h1, h2⟩ := h.ex
  obtain ⟨hV, hg⟩ := cg_f (O := [f, f2]) (by simpa using hf) hq
  exact (and_any ansC_no h1 f f2 pz_p1 cp2 (by rw [hV]; exact Or.inr ⟨hsp, hg⟩)).mono fun e' w' hr => cg_ans h h2 hV hr
theorem Cg.good (h : Cg w0 w g V S) : Good V S.ns S.sp := by
  obtain ⟨F, h1, h2⟩ := h.ex
  exact h1.mg.good
theorem cg_size {n : Nat} (h : Cg w0 w g V S) (ha : alive S.ns f) (hn : (odF V S.ns f).length = n) :
    Calls Tryd.prog 10 #[.pointer (some ⟨g, 0, none⟩), .int .i64 f] w fun e w' => e = .returned (.tuple #[.int .i64 (n : Int), .int .i64 0]) ∧ Cg w0 w' g V S := by
  obtain ⟨F, h1, h2⟩ := h.ex
  have hS := size_any h1 f
  rw [if_pos ha, hn] at hS
  exact hS.mono fun e w' hr => ⟨hr.1, h.beyond hr.2⟩
theorem cg_count {ds : List Nat} (h : Cg w0 w g V S) (hV : V ≤ 4096) (ha : alive S.ns f) (hn : textN (cvl V S.ns f) = ds) (htab : Lib.TabIs Tryd.prog w0 "internal/strconv.uint64pow10" .u64 Lib.pow10Tab) :
    Calls Tryd.prog 11 #[.pointer (some ⟨g, 0, none⟩), .int .i64 f] w fun e w' => e = .returned (.tuple #[.string (gS ds), .int .i64 0]) ∧ Cg w0 w' g V S := by
  obtain ⟨F, h1, h2⟩ := h.ex
  have hC := countB_any h1 hV f ha (tab_below htab h.bel)
  rw [text_map (cvl_sm _ _ _) (by rw [cvl_len]; omega), hn] at hC
  exact hC.mono fun e w' hr => ⟨hr.1, h.beyond hr.2⟩
end
theorem cg_new {V : Nat} (hV : V ≤ 4096) (w : World) : Calls Tryd.prog 21 #[.int .i64 (V : Int), .int .i64 16384] w fun e w' => ∃ g, e = .returned (.pointer (some ⟨g, 0, none⟩)) ∧ Cg w w' g V (SC V 0) := by
  have h1 : varsOf (V : Int) = V := by unfold varsOf; omega
  have h2 : mostOf 16384 = 16384 := by decide
  have h := new_any (V : Int) 16384 w
  rw [h1, h2] at h
  refine h.mono ?_
  rintro e w' ⟨g, rfl, -, hb, hG⟩
  exact ⟨g, rfl, hb, _, hG, fun k hk => hk.1⟩
/-- A step of the chain. -/
theorem chain_step {V k : Nat} (hV : V ≤ 120) (hk : k < V) : ∃ v S1, nodeR 16384 (SC V k) ((V : Int) - (k : Int) - 1) 0 1 = some (v, S1) ∧ S1.sp = [] ∧ ansQ V 16384 S1 (v, fC k, 0) = some (fC (k + 1), SC V (k + 1)) ∧ alive S1.ns v ∧ alive S1.ns (fC k) := by
  cases k with
  | zero =>
    refine ⟨2, SC V 1, ?_, rfl, chain_and0, ?_, ?_⟩
    · rw [show (V : Int) - ((0 : Nat) : Int) - 1 = (V : Int) - 1 by omega]; exact chain_var0 (by decide)
    · have := fC_alive (V := V) (K := 1) (j := 1) (Nat.le_refl _) []
      rw [List.append_nil] at this; exact this
    · have := fC_alive (V := V) (K := 1) (j := 0) (by omega) []
      rw [List.append_nil] at this; exact this
  | succ k =>
    refine ⟨2 * (k : Int) + 3, ⟨nsC V (k + 1) ++ [((V : Int) - (k : Int) - 2, 0, 1)], [], 0⟩, ?_, rfl, chain_and (by omega) (by omega), ?_, fC_alive (by omega) _⟩
    · rw [show (V : Int) - ((k + 1 : Nat) : Int) - 1 = (V : Int) - (k : Int) - 2 by omega]; exact chain_var (by omega)
    · have hl := nsC_len V k
      refine ⟨by omega, by show _ < (nsC V (k + 1) ++ _).length; rw [List.length_append, hl]; simp; omega, Or.inr ?_⟩
      have e : at3 (nsC V (k + 1) ++ [((V : Int) - (k : Int) - 2, 0, 1)]) (2 * (k : Int) + 3) = ((V : Int) - (k : Int) - 2, 0, 1) := by
        refine at3_nth (i := 2 * k + 3) ?_ (by omega)
        rw [List.getElem?_append_right (by omega), hl]; simp
      show at3 _ _ ≠ _
      rw [e]
      intro h
      have : (1 : Int) = 0 := congrArg (fun t : T3 => t.2.2) h
      omega
end Go.Proofs.YtkmkmgnfolpphaaDoor
