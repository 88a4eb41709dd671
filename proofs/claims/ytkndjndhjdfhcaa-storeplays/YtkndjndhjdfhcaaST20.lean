/- Contracts (store's walk): its memory; isTrue, isFalse, set. -/
import Derived.Test.YtkndjndhjdfhcaaST19
namespace Go.Proofs.Ytkndjndhjdfhcaa
open Go.RowKit
set_option linter.unusedSimpArgs false
set_option linter.unusedVariables false

/-- Is the literal of number k true? -/
def trv (T : List Int) (k : Nat) : Bool := T.any fun l => decide (cd l = k)
theorem trv_cd {T : List Int} {l : Int} : trv T (cd l) = decide (l ∈ T) := by
  unfold trv
  rw [Bool.eq_iff_iff, List.any_eq_true, decide_eq_true_eq]
  constructor
  · rintro ⟨x, hx, e⟩
    rw [← cd_inj (of_decide_eq_true e)]; exact hx
  · exact fun h => ⟨l, h, by simp⟩
theorem trv_snoc (T : List Int) (l : Int) (k : Nat) : trv (T ++ [l]) k = (trv T k || decide (cd l = k)) := by
  unfold trv; rw [List.any_append]; simp
def mcs (x : Nat × Nat) : List Value := [.int .i64 (x.1 : Int), .int .u64 (x.2 : Int)]
theorem mcs_len (M : List (Nat × Nat)) : (M.flatMap mcs).length = M.length * 2 := by
  induction M with
  | nil => rfl
  | cons x M ih => rw [List.flatMap_cons, List.length_append, ih, List.length_cons]; show 2 + _ = _; omega
theorem infoMove : (Try.prog.info? 79).map (fun i => (i.zero, i.size, i.bytes)) = some (some (.agg #[.int .i64 0, .int .u64 0]), 2, 16) := by kernel_rfl
theorem underMoves : Try.prog.underlying 62 = some (.slice 79) := by kernel_rfl
/-- What stays of a store while its literals are followed. -/
structure Wc (C : List (List Int)) (m N : Nat) : Prop where
  ok : ∀ c ∈ C, Okc c
  rm : Rm C m
  mN : m ≤ N
  nN : N ≤ 131074
  ar : (ar C).length ≤ 262144
/-- The store, of which these lists of watches are known. -/
def SK (K : List (Nat × Value)) (w : World) (F : Nat → Prop) (s mo : Nat) (A B S : List Int) (W : List (List Int)) : Prop := ∃ va vb vs vw us, St w F s mo va vb vs vw us A B S W ∧ ∀ x ∈ K, us[x.1]? = some x.2
theorem SK.kept {K : List (Nat × Value)} {w w' : World} {F : Nat → Prop} {s mo : Nat} {A B S : List Int} {W : List (List Int)} (h : SK K w F s mo A B S W) (hk : ∀ k, k < w.heap.size → F k → w'.heap[k]? = w.heap[k]?) : SK K w' F s mo A B S W := by
  obtain ⟨va, vb, vs, vw, us, h1, h2⟩ := h
  exact ⟨va, vb, vs, vw, us, h1.kept hk, h2⟩
/-- The walk at block b over the store at s: begun in w0; its truths at rt. -/
structure Wk (K : List (Nat × Value)) (w0 : World) (F0 : Nat → Prop) (w : World) (F : Nat → Prop) (s mo b N rt : Nat) (vo vm : Value) (A : List Int) (C W : List (List Int)) (M : List (Nat × Nat)) (T : List Int) (k : Nat) : Prop where
  hd : w.heap[b]? = some (.cells #[.pointer (some ⟨s, 0, none⟩), .slice (some ⟨rt, 0, none⟩) N N, vo, .int .i64 (k : Int), vm] 64)
  tr : w.rowIs rt 4 N (fun j => .bool (trv T j))
  to : Is' w w0.heap.size vo T
  mr : w.ownsRow w0.heap.size 79 2 vm M.length (M.flatMap mcs)
  b0 : w0.heap.size ≤ b
  t0 : w0.heap.size ≤ rt
  st : SK K w F s mo A (bds C) (shs C) W
  nb : ¬ F b
  nt : ¬ F rt
  no : ∀ q, vo.ownBlock = some q → ¬ F q
  nm : ∀ q, vm.ownBlock = some q → ¬ F q
  ch : Ch w0 w F0 F
  lt : ∀ q, F q → q < w.heap.size
section
variable {K : List (Nat × Value)} {w0 w w' : World} {F0 F : Nat → Prop} {s mo b N rt : Nat} {vo vm : Value} {A : List Int} {C W : List (List Int)} {M : List (Nat × Nat)} {T : List Int} {k : Nat}
theorem Wk.bl (h : Wk K w0 F0 w F s mo b N rt vo vm A C W M T k) : b < w.heap.size := (Array.getElem?_eq_some_iff.1 h.hd).1
theorem Wk.al (h : Wk K w0 F0 w F s mo b N rt vo vm A C W M T k) (ha : Al w w') : Wk K w0 F0 w' F s mo b N rt vo vm A C W M T k :=
  ⟨by rw [ha.heap]; exact h.hd, h.tr.of_block (by rw [ha.heap]), row_kept h.to (fun _ _ => by rw [ha.heap]), row_kept h.mr (fun _ _ => by rw [ha.heap]), h.b0, h.t0, h.st.kept (fun _ _ _ => by rw [ha.heap]), h.nb, h.nt, h.no, h.nm, h.ch.trans (Ch.of_below F (ha.below _)), fun q hq => by rw [ha.heap]; exact h.lt q hq⟩
/-- The walk's blocks are apart. -/
theorem Wk.sep (h : Wk K w0 F0 w F s mo b N rt vo vm A C W M T k) : b ≠ rt ∧ vo.ownBlock ≠ some b ∧ vo.ownBlock ≠ some rt ∧ vm.ownBlock ≠ some b ∧ vm.ownBlock ≠ some rt ∧ ∀ q, vo.ownBlock = some q → vm.ownBlock ≠ some q := by
  obtain ⟨cur, hc, -⟩ := h.tr
  refine ⟨fun e => ?_, fun e => ?_, fun e => ?_, fun e => ?_, fun e => ?_, fun q e e' => ?_⟩
  · rw [← e, h.hd] at hc; cases hc
  · obtain ⟨c2, q⟩ := row_cur h.to e; rw [h.hd] at q; cases q
  · obtain ⟨c2, q⟩ := row_cur h.to e; rw [hc] at q; cases q
  · obtain ⟨c2, q⟩ := row_cur h.mr e; rw [h.hd] at q; cases q
  · obtain ⟨c2, q⟩ := row_cur h.mr e; rw [hc] at q; cases q
  · exact row_ne h.to h.mr (by decide) e e'
end
section
variable {w : World} {b N rt : Nat} {l : Int}
set_option maxHeartbeats 1600000 in
theorem isTrue_q (hl : sm l) (c1 : w.cell? ⟨b, 1, none⟩ = some (.slice (some ⟨rt, 0, none⟩) N N)) (hN : cd l < N) {v : Bool} (hv : w.cell? ⟨rt, cd l, none⟩ = some (.bool v)) :
    Calls Try.prog 66 #[.pointer (some ⟨b, 0, none⟩), .int .i64 l] w fun e w' => e = .returned (.bool v) ∧ ∃ m, w' = w.drewN m := by
  have HC : Hid (∀ wx, Calls Try.prog 43 #[.int .i64 l] wx fun e w' => e = .returned (.int .u64 (cd l : Int)) ∧ w' = wx) := fun wx => code_any hl wx
  obtain ⟨c, hc⟩ : ∃ c, c = cd l := ⟨_, rfl⟩
  rw [← hc] at HC hN hv
  have hNI : (c : Int) < (N : Int) := by omega
  clear hc
  go_enter Try.func66, Try.ntmps66
  go_wp2_with fail
  go_quiet ((go_at_call 43; refine Calls.quiet_of_same (HC.out _)))
  go_wp2_with fail
  go_ret
  exact ⟨rfl, _, rfl⟩
set_option maxHeartbeats 1600000 in
theorem isFalse_q (hl : sm l) (c1 : w.cell? ⟨b, 1, none⟩ = some (.slice (some ⟨rt, 0, none⟩) N N)) (hN : cd (-l) < N) {v : Bool} (hv : w.cell? ⟨rt, cd (-l), none⟩ = some (.bool v)) :
    Calls Try.prog 51 #[.pointer (some ⟨b, 0, none⟩), .int .i64 l] w fun e w' => e = .returned (.bool v) ∧ ∃ m, w' = w.drewN m := by
  have HC : Hid (∀ wx, Calls Try.prog 43 #[.int .i64 (-l)] wx fun e w' => e = .returned (.int .u64 (cd (-l) : Int)) ∧ w' = wx) := fun wx => code_any (sm_neg hl) wx
  unfold sm at hl
  obtain ⟨c, hc⟩ : ∃ c, c = cd (-l) := ⟨_, rfl⟩
  rw [← hc] at HC hN hv
  have hNI : (c : Int) < (N : Int) := by omega
  clear hc
  go_enter Try.func51, Try.ntmps51
  go_wp2_with fail
  go_quiet ((go_at_call 43; refine Calls.quiet_of_same (HC.out _)))
  go_wp2_with fail
  go_ret
  exact ⟨rfl, _, rfl⟩
end
section
variable {K : List (Nat × Value)} {w0 w : World} {F0 F : Nat → Prop} {s mo b N rt : Nat} {vo vm : Value} {A : List Int} {C W : List (List Int)} {M : List (Nat × Nat)} {T : List Int} {k : Nat} {l : Int}
theorem Wk.isT (h : Wk K w0 F0 w F s mo b N rt vo vm A C W M T k) (hl : sm l) (hN : cd l < N) :
    Calls Try.prog 66 #[.pointer (some ⟨b, 0, none⟩), .int .i64 l] w fun e w' => e = .returned (.bool (decide (l ∈ T))) ∧ ∃ m, w' = w.drewN m :=
  isTrue_q hl (cell_of h.hd 1 rfl) hN (by rw [← trv_cd]; exact h.tr.cell hN)
theorem Wk.isF (h : Wk K w0 F0 w F s mo b N rt vo vm A C W M T k) (hl : sm l) (hN : cd (-l) < N) :
    Calls Try.prog 51 #[.pointer (some ⟨b, 0, none⟩), .int .i64 l] w fun e w' => e = .returned (.bool (decide (-l ∈ T))) ∧ ∃ m, w' = w.drewN m :=
  isFalse_q hl (cell_of h.hd 1 rfl) hN (by rw [← trv_cd]; exact h.tr.cell hN)
/-- A cell of the walk, or a truth, or a new block has turned: the store is as it was. -/
theorem Wk.stx {w' : World} (h : Wk K w0 F0 w F s mo b N rt vo vm A C W M T k) (hs : w.heap.size ≤ w'.heap.size) (hos : w'.os = w.os) (ht : w'.tape = w.tape) (hout : w'.output = w.output) (hk : ∀ q, q < w.heap.size → F q ∨ q < w0.heap.size → w'.heap[q]? = w.heap[q]?) : SK K w' F s mo A (bds C) (shs C) W ∧ Ch w0 w' F0 F ∧ ∀ q, F q → q < w'.heap.size := by
  refine ⟨h.st.kept (fun q hq hf => hk q hq (Or.inl hf)), ⟨hos.trans h.ch.os, ht.trans h.ch.tape, hout.trans h.ch.output, Nat.le_trans h.ch.size hs, fun q hq hn => ?_, fun q hq => ?_⟩, fun q hq => Nat.lt_of_lt_of_le (h.lt q hq) hs⟩
  · exact (hk q (Nat.lt_of_lt_of_le hq h.ch.size) (Or.inr hq)).trans (h.ch.block q hq hn)
  · rcases h.ch.foot q hq with h1 | ⟨h1, h2⟩
    · exact Or.inl h1
    · exact Or.inr ⟨h1, by omega⟩
end
end Go.Proofs.Ytkndjndhjdfhcaa
