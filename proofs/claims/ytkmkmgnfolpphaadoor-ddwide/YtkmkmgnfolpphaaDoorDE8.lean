/- Contracts (dd): the node of a variable and two diagrams, where none goes. -/
import Derived.Test.YtkmkmgnfolpphaaDoorDE7
namespace Go.Proofs.YtkmkmgnfolpphaaDoor
open Go.RowKit
set_option linter.unusedSimpArgs false
set_option linter.unusedVariables false

/-- v is a slice of these numbers, in a block that isn't of F. -/
structure Sf (w : World) (F : Nat → Prop) (v : Value) (l : List Int) : Prop where
  ex : ∃ a c, v = .slice a l.length c ∧ (l = [] ∨ ∃ r o, a = some ⟨r, o, none⟩ ∧ r < w.heap.size ∧ ¬ F r ∧ Li w r o l)
theorem Li.kept {w w' : World} {g o : Nat} {l : List Int} (h : Li w g o l) (hb : w'.heap[g]? = w.heap[g]?) : Li w' g o l := fun j hj => (World.cell?_of_block hb).trans (h j hj)
theorem Ch.old {w w' : World} {F F' : Nat → Prop} (hc : Ch w w' F F') {k : Nat} (hk : k < w.heap.size) (h : ¬ F k) : ¬ F' k := fun hf => by
  rcases hc.foot k hf with q | q
  · exact h q
  · omega
theorem Sf.ch {w w' : World} {F F' : Nat → Prop} {v : Value} {l : List Int} (h : Sf w F v l) (hc : Ch w w' F F') : Sf w' F' v l := by
  obtain ⟨a, c, e, h2⟩ := h.ex
  refine ⟨a, c, e, ?_⟩
  rcases h2 with h2 | ⟨r, o, h3, h4, h5, h6⟩
  · exact Or.inl h2
  · exact Or.inr ⟨r, o, h3, Nat.lt_of_lt_of_le h4 hc.size, hc.old h4 h5, h6.kept (hc.block r h4 h5)⟩
def rsL (R : Rs) : List (Value × Value) := R.map fun p => (t3v p.1, .int .i64 p.2)
/-- A run at block rb: over the manager at g, with these operands, and what was found. -/
structure Rn (w : World) (F : Nat → Prop) (rb g : Nat) (rm : Option Nat) (O : List Int) (R : Rs) : Prop where
  ex : ∃ ov, w.heap[rb]? = some (.cells #[.pointer (some ⟨g, 0, none⟩), ov, .map rm] 96) ∧ Sf w F ov O
  nf : ¬ F rb
  mp : (rm = none ∧ R = []) ∨ ∃ r, rm = some r ∧ Mp w 98 r (rsL R) ∧ ¬ F r
  nd : (R.map (·.1)).Nodup
section
variable {w w' : World} {F F' : Nat → Prop} {rb g : Nat} {rm : Option Nat} {O : List Int} {R : Rs}
theorem Rn.lt (h : Rn w F rb g rm O R) : rb < w.heap.size := by
  obtain ⟨ov, h1, -⟩ := h.ex
  exact (Array.getElem?_eq_some_iff.1 h1).1
theorem Rn.c0 (h : Rn w F rb g rm O R) : w.cell? ⟨rb, 0, none⟩ = some (.pointer (some ⟨g, 0, none⟩)) := by
  obtain ⟨ov, h1, -⟩ := h.ex
  exact cell_of h1 0 rfl
theorem Rn.c2 (h : Rn w F rb g rm O R) : w.cell? ⟨rb, 2, none⟩ = some (.map rm) := by
  obtain ⟨ov, h1, -⟩ := h.ex
  exact cell_of h1 2 rfl
theorem Rn.ch (h : Rn w F rb g rm O R) (hc : Ch w w' F F') : Rn w' F' rb g rm O R := by
  obtain ⟨ov, h1, h2⟩ := h.ex
  refine ⟨⟨ov, (hc.block rb h.lt h.nf).trans h1, h2.ch hc⟩, hc.old h.lt h.nf, ?_, h.nd⟩
  rcases h.mp with q | ⟨r, q1, q2, q3⟩
  · exact Or.inl q
  · exact Or.inr ⟨r, q1, q2.kept (hc.block r q2.lt q3), hc.old q2.lt q3⟩
theorem Rn.below (h : Rn w F rb g rm O R) (hb : Below w.heap.size w w') : Rn w' F rb g rm O R := h.ch (Ch.of_below F hb)
end
theorem Nm.look_yes {w : World} {m : Nat} {ns : List T3} {vars : Nat} {sp : List Int} (h : Nm w m ns) (g : Good vars ns sp) {n : T3} {kl : Lit} (hkl : keyOf Tryd.prog 80 (t3v n) = some kl) (hne : n.2.1 ≠ n.2.2) {f : Int} (hf : findN ns n = some f) :
    (Instr.lookup 73 (.map (some m)) (t3v n) true).run Tryd.prog w = .ok (.tuple #[.int .i64 f, .bool true]) w := by
  obtain ⟨L, h1, h2⟩ := h.ex
  obtain ⟨p1, p2, p3⟩ := findN_some g hne hf
  refine h1.yes arrLaw underMap (zeroInt _) hkl (x := .int .i64 f) (h2.symm.subset (by have := in_tabL p1 p2; rwa [p3] at this)) fun q hq he => ?_
  obtain ⟨i, hi, i2, i0, rfl⟩ := mem_tabL (h2.subset hq)
  have e := t3v_inj he
  have := g.uni (i : Int) f (by omega) p1 ⟨by omega, by simpa using hi, Or.inr i0⟩ p2 (e.trans p3.symm)
  rw [this]
theorem Nm.look_no {w : World} {m : Nat} {ns : List T3} (h : Nm w m ns) {n : T3} {kl : Lit} (hkl : keyOf Tryd.prog 80 (t3v n) = some kl) (hf : findN ns n = none) :
    (Instr.lookup 73 (.map (some m)) (t3v n) true).run Tryd.prog w = .ok (.tuple #[.int .i64 0, .bool false]) w := by
  obtain ⟨L, h1, h2⟩ := h.ex
  exact h1.no arrLaw underMap (zeroInt _) hkl fun q hq => tab_no hf q (h2.subset hq)
set_option maxRecDepth 20000 in
set_option maxHeartbeats 3200000 in
theorem node_any0 {w : World} {F : Nat → Prop} {g vars most rb : Nat} {rm : Option Nat} {O : List Int} {R : Rs} {S : St} {pn : Int → Int} (h : Gr w F g vars most S pn) (hr : Rn w F rb g rm O R) {A : List Int} {top no yes : Int}
    (hA : ∀ i ∈ A, alive S.ns i) (ht : 0 ≤ top ∧ top < vars) (hn : Rz S.ns A no) (hy : Rz S.ns A yes) (vn : top < (at3 S.ns no).1) (vy : top < (at3 S.ns yes).1) (hsp : S.sp = []) (hg0 : (nodeF most S A top no yes).2.gone = S.gone) :
    Calls Tryd.prog 48 #[.pointer (some ⟨rb, 0, none⟩), .int .i64 top, .int .i64 no, .int .i64 yes] w fun e w' => (∃ f, (nodeF most S A top no yes).1 = some f ∧ e = .returned (.tuple #[.int .i64 f, .int .i64 0])) ∧ (nodeF most S A top no yes).2.sp = [] ∧ Did w F g vars most (nodeF most S A top no yes).2 pn w' := by
  have c0 := hr.c0
  have hrb := hr.lt
  have an := hn.alive h.mg.good hA
  have ay := hy.alive h.mg.good hA
  by_cases hq : no = yes
  · have e1 : nodeF most S A top no yes = (some no, S) := by unfold nodeF; rw [if_pos hq]
    rw [e1]
    have HE : Hid (Did w F g vars most S pn w) := ⟨F, h, Ch.refl _ _⟩
    clear e1 hg0 h hr hn hy vn vy an ay
    subst hq
    go_enter Tryd.func48, Tryd.ntmps48
    go_wp2_with fail
    refine bodyPost_ret (v := .tuple #[.int .i64 no, .int .i64 0]) (by simp [results, Tryd.results48, go_sem]) rfl ?_
    exact ⟨⟨_, rfl, rfl⟩, hsp, HE.out⟩
  · have hqb : (no == yes) = false := by simp [hq]
    have HG : Hid (Gr w F g vars most S pn) := h
    obtain ⟨m, p, v, u, hx, -⟩ := h
    have d3 := hx.c3
    have hv := hx.mg.vr
    have hl := hx.mg.len
    have hmo := hx.mg.mo
    have hgl := hx.lt
    obtain ⟨kl, hkl⟩ := key_n (k := (top, no, yes)) (by unfold w64; dsimp only; omega) (by have := an.1; have := an.2.1; unfold w64; dsimp only; omega) (by have := ay.1; have := ay.2.1; unfold w64; dsimp only; omega)
    have hbo : ∀ n, ((w.alloc (.cells #[.int .i64 top, .int .i64 no, .int .i64 yes] 80)).drewN n).heap[m]? = w.heap[m]? := fun n => heap_alloc_old _ _ hx.nums.lt
    cases hf : findN S.ns (top, no, yes) with
    | some f =>
      have e1 : nodeF most S A top no yes = (some f, S) := by unfold nodeF; rw [if_neg hq, hf]
      rw [e1]
      have hlk : ∀ n, (Instr.lookup 73 (.map (some m)) (.agg #[.int .i64 top, .int .i64 no, .int .i64 yes]) true).run Tryd.prog ((w.alloc (.cells #[.int .i64 top, .int .i64 no, .int .i64 yes] 80)).drewN n) = .ok (.tuple #[.int .i64 f, .bool true]) ((w.alloc (.cells #[.int .i64 top, .int .i64 no, .int .i64 yes] 80)).drewN n) := fun n => (hx.nums.kept (hbo n)).look_yes hx.mg.good hkl (by exact hq) hf
      clear e1 hg0 hn hy vn vy an ay hkl hbo hf hq hx hr
      go_enter Tryd.func48, Tryd.ntmps48
      go_wp2_with fail
      go_quiet (fail)
      go_wp2_with fail
      refine bodyPost_ret (v := .tuple #[.int .i64 f, .int .i64 0]) (by simp [results, Tryd.results48, go_sem]) rfl ?_
      have hB : Below w.heap.size w ((w.alloc (.cells #[.int .i64 top, .int .i64 no, .int .i64 yes] 80)).drewN nq) := below_drewN (by go_grown) _
      exact ⟨⟨_, rfl, rfl⟩, hsp, F, HG.out.below hB, Ch.of_below F hB⟩
    | none =>
      have hc : cntF S.ns ≠ most := fun hc => by
        unfold nodeF at hg0
        rw [if_neg hq, hf] at hg0
        dsimp only at hg0
        rw [if_pos hc] at hg0
        split at hg0
        · simp [colF] at hg0
        · have : ∀ (T : St) (n : T3), (addF T n).2.gone = T.gone := fun T n => by unfold addF; split <;> rfl
          rw [this] at hg0
          simp [colF] at hg0
      have hcl : cntF S.ns < most := by have := hx.mg.sum; rw [hsp] at this; simp at this; omega
      have e1 : nodeF most S A top no yes = (some (addF S (top, no, yes)).1, (addF S (top, no, yes)).2) := by unfold nodeF; rw [if_neg hq, hf]; dsimp only; rw [if_neg hc]
      rw [e1]
      have hnd : NdOk vars S.ns (top, no, yes) := ⟨ht, hq, an, ay, vn, vy, fun i _ hi => findN_none hf hi⟩
      have hsp' : Hid ((addF S (top, no, yes)).2.sp = []) := by unfold Hid addF; rw [hsp]; rfl
      have HADD : Hid (∀ wx, Gr wx F g vars most S pn → Calls Tryd.prog 60 #[.pointer (some ⟨g, 1, none⟩), .agg #[.int .i64 top, .int .i64 no, .int .i64 yes]] wx fun e w' => e = .returned (.int .i64 (addF S (top, no, yes)).1) ∧ Did wx F g vars most (addF S (top, no, yes)).2 pn w') := fun wx hw => add_any0 hw hsp hcl hnd hf
      have HFU : Hid (∀ wx, Gr wx F g vars most S pn → Calls Tryd.prog 58 #[.pointer (some ⟨g, 1, none⟩)] wx fun e w' => e = .returned (.bool false) ∧ ∃ n, w' = wx.drewN n) := fun wx hw => by
        have := full_any hw
        rwa [decide_eq_false hc] at this
      have hlk : ∀ n, (Instr.lookup 73 (.map (some m)) (.agg #[.int .i64 top, .int .i64 no, .int .i64 yes]) true).run Tryd.prog ((w.alloc (.cells #[.int .i64 top, .int .i64 no, .int .i64 yes] 80)).drewN n) = .ok (.tuple #[.int .i64 0, .bool false]) ((w.alloc (.cells #[.int .i64 top, .int .i64 no, .int .i64 yes] 80)).drewN n) := fun n => (hx.nums.kept (hbo n)).look_no hkl hf
      obtain ⟨I, hI⟩ : ∃ I, I = (addF S (top, no, yes)).1 := ⟨_, rfl⟩
      obtain ⟨S2, hS2⟩ : ∃ S2, S2 = (addF S (top, no, yes)).2 := ⟨_, rfl⟩
      rw [← hS2] at hsp' HADD
      rw [← hI] at HADD
      rw [← hI, ← hS2]
      clear e1 hg0 hn hy vn vy an ay hkl hbo hf hq hx hr hI hS2 hnd hc hcl
      go_enter Tryd.func48, Tryd.ntmps48
      go_wp2_with fail
      go_quiet (fail)
      go_wp2_with fail
      obtain ⟨W1, hW1⟩ : ∃ W1, W1 = ((w.alloc (.cells #[.int .i64 top, .int .i64 no, .int .i64 yes] 80)).drewN nq) := ⟨_, rfl⟩
      have hB1 : Below w.heap.size w W1 := by rw [hW1]; exact below_drewN (by go_grown) _
      have b0 : ∀ n, (W1.drewN n).cell? ⟨w.heap.size, 0, none⟩ = some (.int .i64 top) := fun n => by rw [hW1]; simp
      have b1 : ∀ n, (W1.drewN n).cell? ⟨w.heap.size, 1, none⟩ = some (.int .i64 no) := fun n => by rw [hW1]; simp
      have b2 : ∀ n, (W1.drewN n).cell? ⟨w.heap.size, 2, none⟩ = some (.int .i64 yes) := fun n => by rw [hW1]; simp
      rw [← hW1]
      clear hlk hW1 nq
      refine (HFU.out W1 (HG.out.below hB1)).mono ?_
      rintro e w2 ⟨rfl, n2, rfl⟩
      go_wp2_with fail
      have hB2 : Below w.heap.size w (W1.drewN n2) := below_drewN hB1 _
      refine (HFU.out _ (HG.out.below hB2)).mono ?_
      rintro e w3 ⟨rfl, n3, hw3⟩
      obtain ⟨n4, hn4⟩ : ∃ n4, w3 = W1.drewN n4 := ⟨n2 + n3, by rw [hw3]; simp⟩
      clear hw3
      subst hn4
      have hB3 : Below w.heap.size w (W1.drewN n4) := below_drewN hB1 _
      go_wp2_with fail
      refine (HADD.out _ (HG.out.below hB3)).mono ?_
      rintro e w5 ⟨rfl, F', hG', hC'⟩
      go_wp2_with fail
      refine bodyPost_ret (v := .tuple #[.int .i64 I, .int .i64 0]) (by simp [results, Tryd.results48, go_sem]) rfl ?_
      exact ⟨⟨_, rfl, rfl⟩, hsp'.out, F', hG', (Ch.of_below F hB3).trans hC'⟩
end Go.Proofs.YtkmkmgnfolpphaaDoor
