/- Contracts (dd): a node that is found or made. -/
import Derived.Test.YtkmkmgnfolpphaaDoorDE6
namespace Go.Proofs.YtkmkmgnfolpphaaDoor
open Go.RowKit
set_option linter.unusedSimpArgs false
set_option linter.unusedVariables false

theorem cnt_snoc {ns : List T3} {n : T3} (h2 : 2 ≤ ns.length) (hn : n ≠ nd0) : cntF (ns ++ [n]) = cntF ns + 1 := by
  unfold cntF
  rw [List.drop_append_of_le_length h2, List.countP_append]
  simp [hn]
theorem cnt_set {ns : List T3} {n : T3} {s : Nat} (h2 : 2 ≤ s) (hs : s < ns.length) (h0 : at3 ns (s : Int) = nd0) (hn : n ≠ nd0) : cntF (ns.set s n) = cntF ns + 1 := by
  unfold cntF
  rw [List.drop_set, if_neg (by omega), List.countP_set (by rw [List.length_drop]; omega)]
  have e : (ns.drop 2)[s - 2]'(by rw [List.length_drop]; omega) = nd0 := by
    rw [List.getElem_drop]
    rw [at3_of (List.getElem?_eq_getElem hs)] at h0
    rw [← h0]; congr 1; omega
  rw [e]
  simp [hn]
theorem addF_mg {vars most : Nat} {S : St} {n : T3} (h : Mg vars most S) (hc : cntF S.ns < most) (hn : NdOk vars S.ns n) : Mg vars most (addF S n).2 := by
  obtain ⟨r1, r2, r3, r4, r5, r6, r7⟩ := addF_ok h.good hn
  have hnz := hn.nz
  have hl2 := h.good.len
  have hsum := h.sum
  refine ⟨r1, h.vr, h.mo, ?_, ?_, ?_⟩
  · unfold addF
    cases hs : S.sp.getLast? with
    | some s =>
      obtain ⟨p1, p2, p3⟩ := h.good.spr s (List.mem_of_getLast? hs)
      have hlen : 0 < S.sp.length := by
        cases hq : S.sp with
        | nil => rw [hq] at hs; cases hs
        | cons a l => simp
      dsimp only
      rw [cnt_set (by omega) p2 (by rw [show ((s.toNat : Nat) : Int) = s by omega]; exact p3) hnz]
      simp only [List.length_dropLast, List.length_set]
      omega
    | none =>
      have h0 : S.sp = [] := List.getLast?_eq_none_iff.1 hs
      rw [h0] at hsum
      dsimp only
      rw [cnt_snoc hl2 hnz, h0]
      simp only [List.length_append, List.length_cons, List.length_nil] at hsum ⊢
      omega
  · unfold addF
    cases hs : S.sp.getLast? with
    | some s => simp only [List.length_set]; exact h.len
    | none =>
      have h0 : S.sp = [] := List.getLast?_eq_none_iff.1 hs
      rw [h0] at hsum
      simp only [List.length_append, List.length_cons, List.length_nil] at hsum ⊢
      omega
  · intro i h2 hi h0
    unfold addF at hi h0 ⊢
    cases hs : S.sp.getLast? with
    | some s =>
      rw [hs] at hi h0
      dsimp only at hi h0 ⊢
      obtain ⟨p1, p2, p3⟩ := h.good.spr s (List.mem_of_getLast? hs)
      rw [at3_set (by omega) (by omega) p2] at h0
      by_cases e : i = s
      · rw [if_pos e] at h0; exact absurd h0 hnz
      · rw [if_neg e] at h0
        have hm := h.hol i h2 (by simpa using hi) h0
        obtain ⟨a, ha⟩ : ∃ a, S.sp = a ++ [s] := by
          rcases List.eq_nil_or_concat S.sp with q | ⟨a, b, q⟩
          · rw [q] at hs; cases hs
          · rw [q] at hs; simp at hs; exact ⟨a, by rw [q, hs]; simp⟩
        rw [ha] at hm ⊢
        rw [List.dropLast_concat]
        rcases List.mem_append.1 hm with q | q
        · exact q
        · simp at q; exact absurd q e
    | none =>
      have hs0 : S.sp = [] := List.getLast?_eq_none_iff.1 hs
      rw [hs] at hi h0
      dsimp only at hi h0 ⊢
      rw [at3_snoc (by omega)] at h0
      by_cases e : i.toNat < S.ns.length
      · rw [if_pos e] at h0
        exact h.hol i h2 e h0
      · rw [if_neg e] at h0
        simp only [List.length_append, List.length_cons, List.length_nil] at hi
        rw [if_pos (by omega)] at h0
        exact absurd h0 hnz
theorem tabL_snoc {ns : List T3} {n : T3} (h2 : 2 ≤ ns.length) (hn : n ≠ nd0) : tabL (ns ++ [n]) = tabL ns ++ [(t3v n, .int .i64 (ns.length : Int))] := by
  unfold tabL
  rw [List.mapIdx_append, List.filterMap_append]
  congr 1
  simp only [List.mapIdx_cons, List.mapIdx_nil, Nat.zero_add, List.filterMap_cons, List.filterMap_nil]
  rw [if_neg (by simp [hn]; omega)]
theorem tab_no {ns : List T3} {n : T3} (hf : findN ns n = none) : ∀ q ∈ tabL ns, q.1 ≠ t3v n := by
  intro q hq he
  obtain ⟨i, hi, h2, h0, rfl⟩ := mem_tabL hq
  have e := t3v_inj he
  exact findN_none hf (i := (i : Int)) ⟨by omega, by simpa using hi, Or.inr h0⟩ e
/-- What a call of a manager leaves: its number, its error, the table then. -/
def Did (w : World) (F : Nat → Prop) (g vars most : Nat) (S' : St) (pn : Int → Int) (w' : World) : Prop := ∃ F', Gr w' F' g vars most S' pn ∧ Ch w w' F F'
theorem add_any0 {w : World} {F : Nat → Prop} {g vars most : Nat} {S : St} {pn : Int → Int} (h : Gr w F g vars most S pn) {n : T3} (hsp : S.sp = []) (hroom : cntF S.ns < most) (hn : NdOk vars S.ns n) (hf : findN S.ns n = none) :
    Calls Tryd.prog 60 #[.pointer (some ⟨g, 1, none⟩), t3v n] w fun e w' => e = .returned (.int .i64 (addF S n).1) ∧ Did w F g vars most (addF S n).2 pn w' := by
  obtain ⟨m, p, v, u, hx, hmp, f1, f2, f3, f4, f5⟩ := h
  have hmg := addF_mg hx.mg hroom hn
  have hv := hx.mg.vr
  have hl := hx.mg.len
  have hm := hx.mg.mo
  have hlo := hn.lo
  have hhi := hn.hi
  obtain ⟨kl, hkl⟩ := key_n (k := n) (by have := hn.v; unfold w64; omega) (by have := hlo.1; have := hlo.2.1; unfold w64; omega) (by have := hhi.1; have := hhi.2.1; unfold w64; omega)
  refine (add_app hx hsp hroom hkl (tab_no hf)).mono ?_
  rintro e w' ⟨rfl, w1, v', ha, hgr, L, hL1, hL2⟩
  have hl0 : S.sp.getLast? = none := by rw [hsp]; rfl
  have ea : addF S n = ((S.ns.length : Int), { S with ns := S.ns ++ [n] }) := by unfold addF; rw [hl0]
  rw [ea] at hmg ⊢
  refine ⟨rfl, ?_⟩
  have hsep := hx.sep
  obtain ⟨s1, s2, s3, s3', s4, s5, s6, s7, s8⟩ := hsep
  have hz1 := ha.size
  have hz2 : w1.heap.size ≤ w'.heap.size := hgr.size
  have hml := hx.nums.lt
  have hpl := hx.pins.lt
  have hgl := hx.lt
  have kp : ∀ k, k < w1.heap.size → k ≠ m → w'.heap[k]? = w1.heap[k]? := fun k h1 h2 => hgr.block k h1 (fun e => h2 (by cases e; rfl))
  have hm1 : ∃ es cl, w1.heap[m]? = some (.map es cl) := by
    obtain ⟨_, ⟨es, cl, q, _⟩, _⟩ := hx.nums.ex
    exact ⟨es, cl, (ha.block m hml (fun e => s3 e.symm) (fun e => s4 e.symm)).trans q⟩
  have hv'm : v'.ownBlock ≠ some m := fun e => by
    obtain ⟨cur, q⟩ := row_cur ha.row e
    obtain ⟨es, cl, q'⟩ := hm1
    rw [q'] at q; cases q
  refine ⟨fun k => F k ∨ (w.heap.size ≤ k ∧ k < w'.heap.size), ⟨m, p, v', u, ⟨(kp g (by omega) s3).trans ha.hd, row_own ha.row fun b e => kp b (ha.row.lt b e).2 (fun q => hv'm (by rw [← q]; exact e)), ⟨L ++ [(t3v n, .int .i64 (S.ns.length : Int))], hL2, ?_⟩, ?_, ?_, hmg⟩, hmp, Or.inl f1, Or.inl f2, Or.inl f3, fun b e => ?_, fun b e => Or.inl (f5 b e)⟩, ⟨hgr.os.trans ha.os, hgr.tape.trans ha.tape, hgr.output.trans ha.output, by omega, fun k h1 h2 => ?_, fun k hk => hk⟩⟩
  · show List.Perm _ (tabL (S.ns ++ [n]))
    rw [tabL_snoc hx.mg.good.len hn.nz]
    exact hL1.append_right _
  · exact row_own hx.spr fun b e => (kp b (by have := (World.ownsRow.lt hx.spr b e).2; omega) (fun q => s5 (by rw [← q]; exact e))).trans (ha.block b (World.ownsRow.lt hx.spr b e).2 (fun q => s2 (by rw [← q]; exact e)) (fun q => s8 b q.symm e))
  · exact hx.pins.kept ((kp p (by omega) (fun q => hmp q.symm)).trans (ha.block p hpl (fun q => s3' q.symm) (fun q => s6 q.symm)))
  · rcases ha.own with q | ⟨b', q, hb⟩
    · exact Or.inl (f4 b (by rw [← q]; exact e))
    · right
      have := (ha.row.lt b e).2
      rw [q] at e; cases e
      exact ⟨hb, by omega⟩
  · have k1 : k ≠ g := fun e => h2 (by rw [e]; exact f1)
    have k2 : some k ≠ v.ownBlock := fun e => h2 (f4 k e.symm)
    have k3 : k ≠ m := fun e => h2 (by rw [e]; exact f2)
    rw [kp k (by omega) k3]
    exact ha.block k h1 k1 k2
end Go.Proofs.YtkmkmgnfolpphaaDoor
