/- Contracts (dd): a node that is found or made. -/
import Derived.Test.YtohfjpahdoodgaaGreatDoorDE6
namespace Go.Proofs.YtohfjpahdoodgaaGreatDoor
open Go.RowKit
set_option linter.unusedSimpArgs false
set_option linter.unusedVariables false

theorem cnt_snoc {ns : List T3} {n : T3} (h2 : 2 ≤ ns.length) (hn : n ≠ nd0) : cntF (ns ++ [n]) = cntF ns + 1 := by
  unfold cntF
  rw [List.drop_append_of_le_length h2, List.countP_append]
  simp [hn]
theorem cnt_set {ns : List T3} {n : T3} {s : Nat} (h2 : 2 ≤ s) (hs : s < ns.length) (h0 : at3 ns (s : Int) = nd0) (hn : n ≠ nd0) : cntF (ns.set s n) = cntF ns + 1 := by
  unfold cntF
  rw [List.drop_set, if_neg (by omega), List.countP_set (by rw [List.length_drop]; omega)]
  have e : (ns.drop 2)[s - 2]'(by rw [List.length_drop]; omega) = nd0 := by
    rw [List.getElem_drop]
    rw [at3_of (List.getElem?_eq_getElem hs)] at h0
    rw [← h0]; congr 1; omega
  rw [e]
  simp [hn]
theorem addF_mg {vars most : Nat} {S : St} {n : T3} (h : Mg vars most S) (hc : cntF S.ns < most) (hn : NdOk vars S.ns n) : Mg vars most (addF S n).2 := by
  obtain ⟨r1, r2, r3, r4, r5, r6, r7⟩ := addF_ok h.good hn
  have hnz := hn.nz
  have hl2 := h.good.len
  have hsum := h.sum
  refine ⟨r1, h.vr, h.mo, ?_, ?_, ?_⟩
  · unfold addF
    cases hs : S.sp.getLast? with
    | some s =>
      obtain ⟨p1, p2, p3⟩ := h.good.spr s (List.mem_of_getLast? hs)
      have hlen : 0 < S.sp.length := by
        cases hq : S.sp with
        | nil => rw [hq] at hs; cases hs
        | cons a l => simp
      dsimp only
      rw [cnt_set (by omega) p2 (by rw [show ((s.toNat : Nat) : Int) = s by omega]; exact p3) hnz]
      simp only [List.length_dropLast, List.length_set]
      omega
    | none =>
      have h0 : S.sp = [] := List.getLast?_eq_none_iff.1 hs
      rw [h0] at hsum
      dsimp only
      rw [cnt_snoc hl2 hnz, h0]
      simp only [List.length_append, List.length_cons, List.length_nil] at hsum ⊢
      omega
  · unfold addF
    cases hs : S.sp.getLast? with
    | some s => simp only [List.length_set]; exact h.len
    | none =>
      have h0 : S.sp = [] := List.getLast?_eq_none_iff.1 hs
      rw [h0] at hsum
      simp only [List.length_append, List.length_cons, List.length_nil] at hsum ⊢
      omega
  · intro i h2 hi h0
    unfold addF at hi h0 ⊢
    cases hs : S.sp.getLast? with
    | some s =>
      rw [hs] at hi h0
      dsimp only at hi h0 ⊢
      obtain ⟨p1, p2, p3⟩ := h.good.spr s (List.mem_of_getLast? hs)
      rw [at3_set (by omega) (by omega) p2] at h0
      by_cases e : i = s
      · rw [if_pos e] at h0; exact absurd h0 hnz
      · rw [if_neg e] at h0
        have hm := h.hol i h2 (by simpa using hi) h0
        obtain ⟨a, ha⟩ : ∃ a, S.sp = a ++ [s] := by
          rcases List.eq_nil_or_concat S.sp with q | ⟨a, b, q⟩
          · rw [q] at hs; cases hs
          · rw [q] at hs; simp at hs; exact ⟨a, by rw [q, hs]; simp⟩
        rw [ha] at hm ⊢
        rw [List.dropLast_concat]
        rcases List.mem_append.1 hm with q | q
        · exact q
        · simp at q; exact absurd q e
    | none =>
      have hs0 : S.sp = [] := List.getLast?_eq_none_iff.1 hs
      rw [hs] at hi h0
      dsimp only at hi h0 ⊢
      rw [at3_snoc (by omega)] at h0
      by_cases e : i.toNat < S.ns.length
      · rw [if_pos e] at h0
        exact h.hol i h2 e h0
      · rw [if_neg e] at h0
        simp only [List.length_append, List.length_cons, List.length_nil] at hi
        rw [if_pos (by omega)] at h0
        exact absurd h0 hnz
theorem tabL_snoc {ns : List T3} {n : T3} (h2 : 2 ≤ ns.length) (hn : n ≠ nd0) : tabL (ns ++ [n]) = tabL ns ++ [(t3v n, .int .i64 (ns.length : Int))] := by
  unfold tabL
  rw [List.mapIdx_append, List.filterMap_append]
  congr 1
  simp only [List.mapIdx_cons, List.mapIdx_nil, Nat.zero_add, List.filterMap_cons, List.filterMap_nil]
  rw [if_neg (by simp [hn]; omega)]
theorem tab_no {ns : List T3} {n : T3} (hf : findN ns n = none) : ∀ q ∈ tabL ns, q.1 ≠ t3v n := by
  intro q hq he
  obtain ⟨i, hi, h2, h0, rfl⟩ := mem_tabL hq
  have e := t3v_inj he
  exact findN_none hf (i := (i : Int)) ⟨by omega, by simpa using hi, Or.inr h0⟩ e
/-- What a call of a manager leaves: its number, its error, the table then. -/
def Did (w : World) (F : Nat → Prop) (g vars most : Nat) (S' : St) (pn : Int → Int) (w' : World) : Prop := ∃ F', Gr w' F' g vars most S' pn ∧ Ch w w' F F'
theorem add_any0 {w : World} {F : Nat → Prop} {g vars most : Nat} {S : St} {pn : Int → Int} (h : Gr w F g vars most S pn) {n : T3} (hsp : S.sp = []) (hroom : cntF S.ns < most) (hn : NdOk vars S.ns n) (hf : findN S.ns n = none) :
    Calls Tryz.prog 55 #[.pointer (some ⟨g, 1, none⟩), t3v n] w fun e w' => e = .returned (.int .i64 (addF S n).1) ∧ Did w F g vars most (addF S n).2 pn w' := by
  obtain ⟨m, p, v, u, hx, hmp, f1, f2, f3, f4, f5⟩ := h
  have hmg := addF_mg hx.mg hroom hn
  have hv := hx.mg.vr
  have hl := hx.mg.len
  have hm := hx.mg.mo
  have hlo := hn.lo
  have hhi := hn.hi
  obtain ⟨kl, hkl⟩ := key_n (k := n) (by have := hn.v; unfold w64; omega) (by have := hlo.1; have := hlo.2.1; unfold w64; omega) (by have := hhi.1; have := hhi.2.1; unfold w64; omega)
  refine (add_app hx hsp hroom hkl (tab_no hf)).mono ?_
  rintro e w' ⟨rfl, w1, v', ha, hgr, L, hL1, hL2⟩
  have hl0 : S.sp.getLast? = none := by rw [hsp]; rfl
  have ea : addF S n = ((S.ns.length : Int), { S with ns := S.ns ++ [n] }) := by unfold addF; rw [hl0]
  rw [ea] at hmg ⊢
  refine ⟨rfl, ?_⟩
  have hsep := hx.sep
  obtain ⟨s1, s2, s3, s3', s4, s5, s6, s7, s8⟩ := hsep
  have hz1 := ha.size
  have hz2 : w1.heap.size ≤ w'.heap.size := hgr.size
  have hml := hx.nums.lt
  have hpl := hx.pins.lt
  have hgl := hx.lt
  have kp : ∀ k, k < w1.heap.size → k ≠ m → w'.heap[k]? = w1.heap[k]? := fun k h1 h2 => hgr.block k h1 (fun e => h2 (by cases e; rfl))
  have hm1 : ∃ es cl, w1.heap[m]? = some (.map es cl) := by
    obtain ⟨_, ⟨es, cl, q, _⟩, _⟩ := hx.nums.ex
    exact ⟨es, cl, (ha.block m hml (fun e => s3 e.symm) (fun e => s4 e.symm)).trans q⟩
  have hv'm : v'.ownBlock ≠ some m := fun e => by
    obtain ⟨cur, q⟩ := row_cur ha.row e
    obtain ⟨es, cl, q'⟩ := hm1
    rw [q'] at q; cases q
  refine ⟨fun k => F k ∨ (w.heap.size ≤ k ∧ k < w'.heap.size), ⟨m, p, v', u, ⟨(kp g (by omega) s3).trans ha.hd, row_own ha.row fun b e => kp b (ha.row.lt b e).2 (fun q => hv'm (by rw [← q]; exact e)), ⟨L ++ [(t3v n, .int .i64 (S.ns.length : Int))], hL2, ?_⟩, ?_, ?_, hmg⟩, hmp, Or.inl f1, Or.inl f2, Or.inl f3, fun b e => ?_, fun b e => Or.inl (f5 b e)⟩, ⟨hgr.os.trans ha.os, hgr.tape.trans ha.tape, hgr.output.trans ha.output, by omega, fun k h1 h2 => ?_, fun k hk => hk⟩⟩
  · show List.Perm _ (tabL (S.ns ++ [n]))
    rw [tabL_snoc hx.mg.good.len hn.nz]
    exact hL1.append_right _
  · exact row_own hx.spr fun b e => (kp b (by have := (World.ownsRow.lt hx.spr b e).2; omega) (fun q => s5 (by rw [← q]; exact e))).trans (ha.block b (World.ownsRow.lt hx.spr b e).2 (fun q => s2 (by rw [← q]; exact e)) (fun q => s8 b q.symm e))
  · exact hx.pins.kept ((kp p (by omega) (fun q => hmp q.symm)).trans (ha.block p hpl (fun q => s3' q.symm) (fun q => s6 q.symm)))
  · rcases ha.own with q | ⟨b', q, hb⟩
    · exact Or.inl (f4 b (by rw [← q]; exact e))
    · right
      have := (ha.row.lt b e).2
      rw [q] at e; cases e
      exact ⟨hb, by omega⟩
  · have k1 : k ≠ g := fun e => h2 (by rw [e]; exact f1)
    have k2 : some k ≠ v.ownBlock := fun e => h2 (f4 k e.symm)
    have k3 : k ≠ m := fun e => h2 (by rw [e]; exact f2)
    rw [kp k (by omega) k3]
    exact ha.block k h1 k1 k2
end Go.Proofs.YtohfjpahdoodgaaGreatDoor

/- Contracts (dd): the node of a variable and two diagrams, where none goes. -/
namespace Go.Proofs.YtohfjpahdoodgaaGreatDoor
open Go.RowKit
set_option linter.unusedSimpArgs false
set_option linter.unusedVariables false

/-- v is a slice of these numbers, in a block that isn't of F. -/
structure Sf (w : World) (F : Nat → Prop) (v : Value) (l : List Int) : Prop where
  ex : ∃ a c, v = .slice a l.length c ∧ (l = [] ∨ ∃ r o, a = some ⟨r, o, none⟩ ∧ r < w.heap.size ∧ ¬ F r ∧ Li w r o l)
theorem Li.kept {w w' : World} {g o : Nat} {l : List Int} (h : Li w g o l) (hb : w'.heap[g]? = w.heap[g]?) : Li w' g o l := fun j hj => (World.cell?_of_block hb).trans (h j hj)
theorem Ch.old {w w' : World} {F F' : Nat → Prop} (hc : Ch w w' F F') {k : Nat} (hk : k < w.heap.size) (h : ¬ F k) : ¬ F' k := fun hf => by
  rcases hc.foot k hf with q | q
  · exact h q
  · omega
theorem Sf.ch {w w' : World} {F F' : Nat → Prop} {v : Value} {l : List Int} (h : Sf w F v l) (hc : Ch w w' F F') : Sf w' F' v l := by
  obtain ⟨a, c, e, h2⟩ := h.ex
  refine ⟨a, c, e, ?_⟩
  rcases h2 with h2 | ⟨r, o, h3, h4, h5, h6⟩
  · exact Or.inl h2
  · exact Or.inr ⟨r, o, h3, Nat.lt_of_lt_of_le h4 hc.size, hc.old h4 h5, h6.kept (hc.block r h4 h5)⟩
def rsL (R : Rs) : List (Value × Value) := R.map fun p => (t3v p.1, .int .i64 p.2)
/-- A run at block rb: over the manager at g, with these operands, and what was found. -/
structure Rn (w : World) (F : Nat → Prop) (rb g : Nat) (rm : Option Nat) (O : List Int) (R : Rs) : Prop where
  ex : ∃ ov, w.heap[rb]? = some (.cells #[.pointer (some ⟨g, 0, none⟩), ov, .map rm] 84) ∧ Sf w F ov O
  nf : ¬ F rb
  mp : (rm = none ∧ R = []) ∨ ∃ r, rm = some r ∧ Mp w 66 r (rsL R) ∧ ¬ F r
  nd : (R.map (·.1)).Nodup
section
variable {w w' : World} {F F' : Nat → Prop} {rb g : Nat} {rm : Option Nat} {O : List Int} {R : Rs}
theorem Rn.lt (h : Rn w F rb g rm O R) : rb < w.heap.size := by
  obtain ⟨ov, h1, -⟩ := h.ex
  exact (Array.getElem?_eq_some_iff.1 h1).1
theorem Rn.c0 (h : Rn w F rb g rm O R) : w.cell? ⟨rb, 0, none⟩ = some (.pointer (some ⟨g, 0, none⟩)) := by
  obtain ⟨ov, h1, -⟩ := h.ex
  exact cell_of h1 0 rfl
theorem Rn.c2 (h : Rn w F rb g rm O R) : w.cell? ⟨rb, 2, none⟩ = some (.map rm) := by
  obtain ⟨ov, h1, -⟩ := h.ex
  exact cell_of h1 2 rfl
theorem Rn.ch (h : Rn w F rb g rm O R) (hc : Ch w w' F F') : Rn w' F' rb g rm O R := by
  obtain ⟨ov, h1, h2⟩ := h.ex
  refine ⟨⟨ov, (hc.block rb h.lt h.nf).trans h1, h2.ch hc⟩, hc.old h.lt h.nf, ?_, h.nd⟩
  rcases h.mp with q | ⟨r, q1, q2, q3⟩
  · exact Or.inl q
  · exact Or.inr ⟨r, q1, q2.kept (hc.block r q2.lt q3), hc.old q2.lt q3⟩
theorem Rn.below (h : Rn w F rb g rm O R) (hb : Below w.heap.size w w') : Rn w' F rb g rm O R := h.ch (Ch.of_below F hb)
end
theorem Nm.look_yes {w : World} {m : Nat} {ns : List T3} {vars : Nat} {sp : List Int} (h : Nm w m ns) (g : Good vars ns sp) {n : T3} {kl : Lit} (hkl : keyOf Tryz.prog 90 (t3v n) = some kl) (hne : n.2.1 ≠ n.2.2) {f : Int} (hf : findN ns n = some f) :
    (Instr.lookup 68 (.map (some m)) (t3v n) true).run Tryz.prog w = .ok (.tuple #[.int .i64 f, .bool true]) w := by
  obtain ⟨L, h1, h2⟩ := h.ex
  obtain ⟨p1, p2, p3⟩ := findN_some g hne hf
  refine h1.yes arrLaw underMap (zeroInt _) hkl (x := .int .i64 f) (h2.symm.subset (by have := in_tabL p1 p2; rwa [p3] at this)) fun q hq he => ?_
  obtain ⟨i, hi, i2, i0, rfl⟩ := mem_tabL (h2.subset hq)
  have e := t3v_inj he
  have := g.uni (i : Int) f (by omega) p1 ⟨by omega, by simpa using hi, Or.inr i0⟩ p2 (e.trans p3.symm)
  rw [this]
theorem Nm.look_no {w : World} {m : Nat} {ns : List T3} (h : Nm w m ns) {n : T3} {kl : Lit} (hkl : keyOf Tryz.prog 90 (t3v n) = some kl) (hf : findN ns n = none) :
    (Instr.lookup 68 (.map (some m)) (t3v n) true).run Tryz.prog w = .ok (.tuple #[.int .i64 0, .bool false]) w := by
  obtain ⟨L, h1, h2⟩ := h.ex
  exact h1.no arrLaw underMap (zeroInt _) hkl fun q hq => tab_no hf q (h2.subset hq)
set_option maxRecDepth 20000 in
set_option maxHeartbeats 3200000 in
theorem node_any0 {w : World} {F : Nat → Prop} {g vars most rb : Nat} {rm : Option Nat} {O : List Int} {R : Rs} {S : St} {pn : Int → Int} (h : Gr w F g vars most S pn) (hr : Rn w F rb g rm O R) {A : List Int} {top no yes : Int}
    (hA : ∀ i ∈ A, alive S.ns i) (ht : 0 ≤ top ∧ top < vars) (hn : Rz S.ns A no) (hy : Rz S.ns A yes) (vn : top < (at3 S.ns no).1) (vy : top < (at3 S.ns yes).1) (hsp : S.sp = []) (hg0 : (nodeF most S A top no yes).2.gone = S.gone) :
    Calls Tryz.prog 35 #[.pointer (some ⟨rb, 0, none⟩), .int .i64 top, .int .i64 no, .int .i64 yes] w fun e w' => (∃ f, (nodeF most S A top no yes).1 = some f ∧ e = .returned (.tuple #[.int .i64 f, .int .i64 0])) ∧ (nodeF most S A top no yes).2.sp = [] ∧ Did w F g vars most (nodeF most S A top no yes).2 pn w' := by
  have c0 := hr.c0
  have hrb := hr.lt
  have an := hn.alive h.mg.good hA
  have ay := hy.alive h.mg.good hA
  by_cases hq : no = yes
  · have e1 : nodeF most S A top no yes = (some no, S) := by unfold nodeF; rw [if_pos hq]
    rw [e1]
    have HE : Hid (Did w F g vars most S pn w) := ⟨F, h, Ch.refl _ _⟩
    clear e1 hg0 h hr hn hy vn vy an ay
    subst hq
    go_enter Tryz.func35, Tryz.ntmps35
    go_wp2_with fail
    refine bodyPost_ret (v := .tuple #[.int .i64 no, .int .i64 0]) (by simp [results, Tryz.results35, go_sem]) rfl ?_
    exact ⟨⟨_, rfl, rfl⟩, hsp, HE.out⟩
  · have hqb : (no == yes) = false := by simp [hq]
    have HG : Hid (Gr w F g vars most S pn) := h
    obtain ⟨m, p, v, u, hx, -⟩ := h
    have d3 := hx.c3
    have hv := hx.mg.vr
    have hl := hx.mg.len
    have hmo := hx.mg.mo
    have hgl := hx.lt
    obtain ⟨kl, hkl⟩ := key_n (k := (top, no, yes)) (by unfold w64; dsimp only; omega) (by have := an.1; have := an.2.1; unfold w64; dsimp only; omega) (by have := ay.1; have := ay.2.1; unfold w64; dsimp only; omega)
    have hbo : ∀ n, ((w.alloc (.cells #[.int .i64 top, .int .i64 no, .int .i64 yes] 90)).drewN n).heap[m]? = w.heap[m]? := fun n => heap_alloc_old _ _ hx.nums.lt
    cases hf : findN S.ns (top, no, yes) with
    | some f =>
      have e1 : nodeF most S A top no yes = (some f, S) := by unfold nodeF; rw [if_neg hq, hf]
      rw [e1]
      have hlk : ∀ n, (Instr.lookup 68 (.map (some m)) (.agg #[.int .i64 top, .int .i64 no, .int .i64 yes]) true).run Tryz.prog ((w.alloc (.cells #[.int .i64 top, .int .i64 no, .int .i64 yes] 90)).drewN n) = .ok (.tuple #[.int .i64 f, .bool true]) ((w.alloc (.cells #[.int .i64 top, .int .i64 no, .int .i64 yes] 90)).drewN n) := fun n => (hx.nums.kept (hbo n)).look_yes hx.mg.good hkl (by exact hq) hf
      clear e1 hg0 hn hy vn vy an ay hkl hbo hf hq hx hr
      go_enter Tryz.func35, Tryz.ntmps35
      go_wp2_with fail
      go_quiet (fail)
      go_wp2_with fail
      refine bodyPost_ret (v := .tuple #[.int .i64 f, .int .i64 0]) (by simp [results, Tryz.results35, go_sem]) rfl ?_
      have hB : Below w.heap.size w ((w.alloc (.cells #[.int .i64 top, .int .i64 no, .int .i64 yes] 90)).drewN nq) := below_drewN (by go_grown) _
      exact ⟨⟨_, rfl, rfl⟩, hsp, F, HG.out.below hB, Ch.of_below F hB⟩
    | none =>
      have hc : cntF S.ns ≠ most := fun hc => by
        unfold nodeF at hg0
        rw [if_neg hq, hf] at hg0
        dsimp only at hg0
        rw [if_pos hc] at hg0
        split at hg0
        · simp [colF] at hg0
        · have : ∀ (T : St) (n : T3), (addF T n).2.gone = T.gone := fun T n => by unfold addF; split <;> rfl
          rw [this] at hg0
          simp [colF] at hg0
      have hcl : cntF S.ns < most := by have := hx.mg.sum; rw [hsp] at this; simp at this; omega
      have e1 : nodeF most S A top no yes = (some (addF S (top, no, yes)).1, (addF S (top, no, yes)).2) := by unfold nodeF; rw [if_neg hq, hf]; dsimp only; rw [if_neg hc]
      rw [e1]
      have hnd : NdOk vars S.ns (top, no, yes) := ⟨ht, hq, an, ay, vn, vy, fun i _ hi => findN_none hf hi⟩
      have hsp' : Hid ((addF S (top, no, yes)).2.sp = []) := by unfold Hid addF; rw [hsp]; rfl
      have HADD : Hid (∀ wx, Gr wx F g vars most S pn → Calls Tryz.prog 55 #[.pointer (some ⟨g, 1, none⟩), .agg #[.int .i64 top, .int .i64 no, .int .i64 yes]] wx fun e w' => e = .returned (.int .i64 (addF S (top, no, yes)).1) ∧ Did wx F g vars most (addF S (top, no, yes)).2 pn w') := fun wx hw => add_any0 hw hsp hcl hnd hf
      have HFU : Hid (∀ wx, Gr wx F g vars most S pn → Calls Tryz.prog 54 #[.pointer (some ⟨g, 1, none⟩)] wx fun e w' => e = .returned (.bool false) ∧ ∃ n, w' = wx.drewN n) := fun wx hw => by
        have := full_any hw
        rwa [decide_eq_false hc] at this
      have hlk : ∀ n, (Instr.lookup 68 (.map (some m)) (.agg #[.int .i64 top, .int .i64 no, .int .i64 yes]) true).run Tryz.prog ((w.alloc (.cells #[.int .i64 top, .int .i64 no, .int .i64 yes] 90)).drewN n) = .ok (.tuple #[.int .i64 0, .bool false]) ((w.alloc (.cells #[.int .i64 top, .int .i64 no, .int .i64 yes] 90)).drewN n) := fun n => (hx.nums.kept (hbo n)).look_no hkl hf
      obtain ⟨I, hI⟩ : ∃ I, I = (addF S (top, no, yes)).1 := ⟨_, rfl⟩
      obtain ⟨S2, hS2⟩ : ∃ S2, S2 = (addF S (top, no, yes)).2 := ⟨_, rfl⟩
      rw [← hS2] at hsp' HADD
      rw [← hI] at HADD
      rw [← hI, ← hS2]
      clear e1 hg0 hn hy vn vy an ay hkl hbo hf hq hx hr hI hS2 hnd hc hcl
      go_enter Tryz.func35, Tryz.ntmps35
      go_wp2_with fail
      go_quiet (fail)
      go_wp2_with fail
      obtain ⟨W1, hW1⟩ : ∃ W1, W1 = ((w.alloc (.cells #[.int .i64 top, .int .i64 no, .int .i64 yes] 90)).drewN nq) := ⟨_, rfl⟩
      have hB1 : Below w.heap.size w W1 := by rw [hW1]; exact below_drewN (by go_grown) _
      have b0 : ∀ n, (W1.drewN n).cell? ⟨w.heap.size, 0, none⟩ = some (.int .i64 top) := fun n => by rw [hW1]; simp
      have b1 : ∀ n, (W1.drewN n).cell? ⟨w.heap.size, 1, none⟩ = some (.int .i64 no) := fun n => by rw [hW1]; simp
      have b2 : ∀ n, (W1.drewN n).cell? ⟨w.heap.size, 2, none⟩ = some (.int .i64 yes) := fun n => by rw [hW1]; simp
      rw [← hW1]
      clear hlk hW1 nq
      refine (HFU.out W1 (HG.out.below hB1)).mono ?_
      rintro e w2 ⟨rfl, n2, rfl⟩
      go_wp2_with fail
      have hB2 : Below w.heap.size w (W1.drewN n2) := below_drewN hB1 _
      refine (HFU.out _ (HG.out.below hB2)).mono ?_
      rintro e w3 ⟨rfl, n3, hw3⟩
      obtain ⟨n4, hn4⟩ : ∃ n4, w3 = W1.drewN n4 := ⟨n2 + n3, by rw [hw3]; simp⟩
      clear hw3
      subst hn4
      have hB3 : Below w.heap.size w (W1.drewN n4) := below_drewN hB1 _
      go_wp2_with fail
      refine (HADD.out _ (HG.out.below hB3)).mono ?_
      rintro e w5 ⟨rfl, F', hG', hC'⟩
      go_wp2_with fail
      refine bodyPost_ret (v := .tuple #[.int .i64 I, .int .i64 0]) (by simp [results, Tryz.results35, go_sem]) rfl ?_
      exact ⟨⟨_, rfl, rfl⟩, hsp'.out, F', hG', (Ch.of_below F hB3).trans hC'⟩
end Go.Proofs.YtohfjpahdoodgaaGreatDoor
