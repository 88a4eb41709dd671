/- Contracts (sexp): Parse. -/
import Derived.Test.YtikdjloedeinhaaDoorSX13
namespace Go.Proofs.YtikdjloedeinhaaDoor
open Go.RowKit
set_option linter.unusedSimpArgs false
set_option linter.unusedVariables false

/-- What Parse answers. -/
def PR (B : Nat) (w : World) (v er : Value) (r : List Sx × Nat × Nat) : Prop :=
  (r.2.2 = 0 ∧ r.2.1 = 0 ∧ er = .nilIface ∧ ∃ D, Row w D r.1 v ∧ ∀ b, D b → B ≤ b ∧ b < w.heap.size) ∨
  (¬ r.2.2 = 0 ∧ r.2.2 < 100 ∧ r.1 = [] ∧ v = .slice none 0 0 ∧ ∃ b, er = .iface 62 (.pointer (some ⟨b, 0, none⟩)) ∧ w.heap[b]? = some (.cells #[.int .i64 (r.2.1 : Int), .int .i64 (r.2.2 : Int)] 66 (0, 0)) ∧ B ≤ b)
theorem placed_any (a e : Int) (w : World) : Calls Tryd.prog 24 #[.int .i64 a, .int .i64 e] w fun ev w' => ev = .returned (.iface 62 (.pointer (some ⟨w.heap.size, 0, none⟩))) ∧ w' = w.alloc (.cells #[.int .i64 a, .int .i64 e] 66) := by
  go_enter Tryd.func24, Tryd.ntmps24
  go_wp2_with fail
  go_ret
  exact ⟨rfl, rfl⟩
theorem newParser_any (t : ByteArray) (w : World) : Calls Tryd.prog 25 #[.string t] w fun ev w' => ∃ R, ev = .returned (.agg #[.string t, .int .i64 0, .slice (some ⟨R, 0, none⟩) 1 1]) ∧ w'.heap[R]? = some (.cells #[.int .i64 0, .slice none 0 0] 76 (0, 0)) ∧ w.heap.size ≤ R ∧ Below w.heap.size w w' := by
  have HN : Hid (∀ wx, Calls Tryd.prog 32 #[.string t] wx fun e w' => e = .returned (.agg #[.string t, .int .i64 0]) ∧ Below wx.heap.size wx w') := fun wx => by
    go_enter Tryd.func32, Tryd.ntmps32
    go_wp2_with fail
    refine bodyPost_ret (v := .agg #[.string t, .int .i64 0]) (by simp [results, Tryd.results32, go_sem]) rfl ?_
    exact ⟨rfl, by go_grown⟩
  go_enter Tryd.func25, Tryd.ntmps25
  go_wp2_with fail
  refine Calls.mono (HN.out _) ?_
  rintro e w1 ⟨rfl, hb⟩
  have hs := hb.size
  rw [show ∀ o : Obj, (w.alloc o).heap.size = w.heap.size + 1 from fun o => by simp] at hs
  have hbk : w1.heap[w.heap.size]? = some (.cells #[.string ⟨#[]⟩, .int .i64 0, .slice none 0 0] 54 (0, 0)) := (hb.block _ (by simp)).trans (heap_alloc_new w _)
  have hbw : Below w.heap.size w w1 := ((Below.refl _ _).alloc (Nat.le_refl _) _).trans (hb.mono (by simp))
  have hA : ∀ o : Obj, (w1.alloc o).heap[w.heap.size]? = some (.cells #[.string ⟨#[]⟩, .int .i64 0, .slice none 0 0] 54 (0, 0)) := fun o => (heap_alloc_old w1 o (by omega)).trans hbk
  have q0 : ∀ o : Obj, (w1.alloc o).cell? ⟨w.heap.size, 0, none⟩ = some (.string ⟨#[]⟩) := fun o => cell_of (hA o) 0 rfl
  have q1 : ∀ o : Obj, (w1.alloc o).cell? ⟨w.heap.size, 1, none⟩ = some (.int .i64 0) := fun o => cell_of (hA o) 1 rfl
  have q2 : ∀ o : Obj, (w1.alloc o).cell? ⟨w.heap.size, 2, none⟩ = some (.slice none 0 0) := fun o => cell_of (hA o) 2 rfl
  have qf : ∀ (o : Obj) i, (w1.alloc o).frozen? ⟨w.heap.size, i, none⟩ = false := fun o i => by simp [World.frozen?, hA o]
  have HA : Hid _ := hA
  have HBW : Hid _ := hbw
  have HS : Hid _ := hs
  clear hbk hb hbw hs hA
  go_wp2_with fail
  obtain ⟨s1, s2⟩ := set3 (a := .string t) (b := .int .i64 0) (c := .slice (some ⟨w1.heap.size, 0, none⟩) 1 1) (o := 0) (HA.out (.cells #[.int .i64 0, .slice none 0 0] 76))
  obtain ⟨wf, hwf⟩ : ∃ wf, wf = ((((w1.alloc (.cells #[.int .i64 0, .slice none 0 0] 76)).setCell ⟨w.heap.size, 0, none⟩ (.string t)).setCell ⟨w.heap.size, 1, none⟩ (.int .i64 0)).setCell ⟨w.heap.size, 2, none⟩ (.slice (some ⟨w1.heap.size, 0, none⟩) 1 1)) := ⟨_, rfl⟩
  rw [show ∀ x : Nat, 0 + x = x from Nat.zero_add, show ∀ x : Nat, 0 + x = x from Nat.zero_add, ← hwf] at s1 s2
  rw [← hwf]
  have f0 : wf.cell? ⟨w.heap.size, 0, none⟩ = some (.string t) := cell_of s1 0 rfl
  have f1 : wf.cell? ⟨w.heap.size, 1, none⟩ = some (.int .i64 0) := cell_of s1 1 rfl
  have f2 : wf.cell? ⟨w.heap.size, 2, none⟩ = some (.slice (some ⟨w1.heap.size, 0, none⟩) 1 1) := cell_of s1 2 rfl
  refine bodyPost_ret (v := .agg #[.string t, .int .i64 0, .slice (some ⟨w1.heap.size, 0, none⟩) 1 1]) (by simp [results, Tryd.results25, go_sem, f0, f1, f2]) rfl ?_
  have hlt := HS.out
  refine ⟨w1.heap.size, rfl, (s2.block _ (by omega)).trans (heap_alloc_new w1 _), by omega, ?_⟩
  exact on_below (HBW.out.alloc (by omega) _) s2 (Nat.le_refl _)

/-- What is held while the text is read. -/
structure AllI (w wr : World) (B p : Nat) (t : ByteArray) (k : Nat) : Prop where
  ex : ∃ D so fs, Pz wr D B p t k so fs ∧ Bd fs k ∧ Vt t ⟨k, stOf fs, .no⟩ = Vt t s0
  le : k ≤ t.size
  bel : Below B w wr
theorem AllI.c1 {w wr : World} {B p : Nat} {t : ByteArray} {k : Nat} (h : AllI w wr B p t k) : wr.cell? ⟨p, 1, none⟩ = some (.int .i64 (k : Int)) := by
  obtain ⟨D, so, fs, hP, -⟩ := h.ex
  exact hP.cu.c1
set_option maxRecDepth 20000 in
set_option maxHeartbeats 6400000 in
theorem skip_all {w wr : World} {B p : Nat} {t : ByteArray} {k : Nat} (h : AllI w wr B p t k) (ht : t.size ≤ 65536) :
    Calls Tryd.prog 35 #[.pointer (some ⟨p, 0, none⟩)] wr fun e w' => e = .returned (.tuple #[]) ∧ ∃ j, AllI w w' B p t j ∧ k ≤ j ∧ (t.size ≤ j ∨ ∃ h : j < t.size, blk (t[j]'h) = false ∧ ¬ t[j]'h = 59) := by
  obtain ⟨D, so, fs, hP, hB, hV⟩ := h.ex
  refine (skip_any hP.cu h.le ht).mono ?_
  rintro e w' ⟨rfl, j, hc, ho, hkj, hj, hv, hend⟩
  refine ⟨rfl, j, ⟨⟨D, so, fs, hP.on hc ho.grown, ⟨hB.ne, hB.deep, fun f hf => ?_⟩, by rw [← hv]; exact hV⟩, hj, on_below h.bel ho hP.bp⟩, hkj, hend⟩
  have := hB.many f hf
  omega
set_option maxRecDepth 20000 in
set_option maxHeartbeats 6400000 in
theorem all_any {w : World} {B p : Nat} {t : ByteArray} (h : AllI w w B p t 0) (ht : t.size ≤ 65536) (hB : B ≤ w.heap.size) :
    Calls Tryd.prog 26 #[.pointer (some ⟨p, 0, none⟩)] w fun ev w' => ∃ v er, ev = .returned (.tuple #[v, er]) ∧ PR B w' v er (Vt t s0) ∧ Below B w w' := by
  have H : Hid _ := h
  have HSK : Hid (∀ wr k, AllI w wr B p t k → Calls Tryd.prog 35 #[.pointer (some ⟨p, 0, none⟩)] wr fun e w' => e = .returned (.tuple #[]) ∧ ∃ j, AllI w w' B p t j ∧ k ≤ j ∧ (t.size ≤ j ∨ ∃ h : j < t.size, blk (t[j]'h) = false ∧ ¬ t[j]'h = 59)) := fun wr k hx => skip_all hx ht
  clear h
  go_enter Tryd.func26, Tryd.ntmps26
  go_wp2_with fail
  refine Calls.mono (HSK.out _ _ H.out) ?_
  rintro ev w1 ⟨rfl, j1, hI1, -, hend1⟩
  have HI1 : Hid _ := hI1
  clear hI1 H
  go_wp2_with fail
  go_loopw [14] (fun u wr => ∃ k, Hid (AllI w wr B p t k ∧ (t.size ≤ k ∨ ∃ h : k < t.size, blk (t[k]'h) = false ∧ ¬ t[k]'h = 59)) ∧ Hid (wr.cell? ⟨p, 1, none⟩ = some (.int .i64 (k : Int)))) (fun u wr => t.size - (((wr.cell? ⟨p, 1, none⟩).map intOf).getD 0).toNat)
  case atStart => exact ⟨j1, ⟨HI1.out, hend1⟩, HI1.out.c1⟩
  case round =>
    clear HI1 hend1
    obtain ⟨k, hH, hC⟩ := hrel
    obtain ⟨hI, hend⟩ := hH.out
    obtain ⟨D, so, fs, hP, hBd, hV⟩ := hI.ex
    have hle := hI.le
    have hbl := hI.bel
    have hsz := hbl.size
    have HI : Hid _ := hI
    have HP : Hid _ := hP
    have HBD : Hid _ := hBd
    have HV : Hid _ := hV
    have HBL : Hid _ := hbl
    clear hI hP hBd hV hbl
    by_cases he : t.size ≤ k
    · have HE : Hid _ := ended_yes HP.out.cu he
      have hfin : Vt t s0 = finS (stOf fs) := by rw [← HV.out, Vt_end he]; rfl
      have HFN : Hid _ := hfin
      obtain ⟨gs, f, hfs⟩ := split_last HBD.out.ne
      have HF : Hid _ := hfs
      have hP2 : Pz wr D B p t k so (gs ++ [f]) := by rw [← hfs]; exact HP.out
      have hfm := HBD.out.many f (by rw [hfs]; simp)
      have hgl : gs.length ≤ 200 := by have := HBD.out.deep; rw [hfs] at this; simpa using this
      obtain ⟨R, cap, rfl, hBR, hRw, hcap⟩ := hP2.os.sl (by simp)
      have hl2 : (gs ++ [f]).length = gs.length + 1 := by simp
      rw [hl2] at hP2
      have HP2 : Hid _ := hP2
      have HIN : Hid (∀ wx, Al wr wx → Calls Tryd.prog 39 #[.pointer (some ⟨p, 0, none⟩)] wx fun ev w' => ev = .returned (.pointer (some ⟨R, gs.length * 2, none⟩)) ∧ Al wx w') := fun wx hx => innermost_any ((hx.cell _).trans hP2.c2) (by omega)
      have HDP : Hid (∀ wx, Al wr wx → Calls Tryd.prog 38 #[.pointer (some ⟨p, 0, none⟩)] wx fun e w' => e = .returned (.int .i64 (gs.length : Int)) ∧ w' = wx) := fun wx hx => by
        have := depth_any ((hx.cell _).trans hP2.c2) (by omega)
        rw [show (((gs.length + 1 : Nat) : Int) - 1) = (gs.length : Int) by omega] at this; exact this
      obtain ⟨-, r0, r1, -⟩ := hP2.os.last
      have HR0 : Hid _ := r0
      have HR1 : Hid _ := r1
      clear hfin hfs hP2 r0 r1 hl2 hcap
      by_cases hg : gs = []
      · subst hg
        go_wp2_with fail
        refine Calls.mono HE.out ?_
        rintro ev w2 ⟨rfl, ha⟩
        go_wp2_with fail
        refine Calls.mono (HDP.out _ ha) ?_
        rintro ev w2' ⟨rfl, hw2⟩
        rw [hw2]
        clear hw2 w2'
        go_wp2_with fail
        refine Calls.mono (HIN.out _ ha) ?_
        rintro ev w3 ⟨rfl, ha3⟩
        have r1 : w3.cell? ⟨R, 1, none⟩ = some f.v := ((ha.trans ha3).cell _).trans HR1.out
        obtain ⟨av, nv, cv, hcv⟩ : ∃ a n' c', f.v = .slice a n' c' := by
          rcases (HP2.out.os.own f (by simp)).2 with ⟨e1, e2⟩ | ⟨g, c', _, e1, -⟩
          · exact ⟨none, 0, 0, e1⟩
          · exact ⟨_, _, _, e1⟩
        rw [hcv] at r1
        have HCV : Hid _ := hcv
        have HA3 : Hid (Al wr w3) := ha.trans ha3
        clear hcv ha ha3
        go_wp2_with fail
        go_ret2
        refine ⟨_, _, rfl, Or.inl ⟨?_, ?_, rfl, ?_⟩, al_below HBL.out HA3.out⟩
        · rw [HFN.out, HF.out]; rfl
        · rw [HFN.out, HF.out]; rfl
        · rw [HFN.out, HF.out]
          refine ⟨fun b => D b ∨ f.v.ownBlock = some b, ?_, ?_⟩
          · show Row w3 _ f.ks (.slice av nv cv)
            rw [← HCV.out]
            have hro := row_of (D := fun b => D b ∨ f.v.ownBlock = some b) (HP2.out.os.own f (by simp)) (fun b hb => Or.inr hb) (fun e he => (HP2.out.os.kid f (by simp) e he).keep (fun _ _ => rfl) (fun _ hd => Or.inl hd))
            exact hro.keep (fun b _ => by rw [HA3.out.heap]) (fun _ h => h)
          · intro b hb
            rw [HA3.out.heap]
            rcases hb with hb | hb
            · exact HP2.out.os.done b hb
            · exact (HP2.out.os.own f (by simp)).lt b hb
      · have hpos : (0 : Int) < (gs.length : Int) := by
          have := List.length_pos_iff.2 hg
          omega
        go_wp2_with fail
        refine Calls.mono HE.out ?_
        rintro ev w2 ⟨rfl, ha⟩
        go_wp2_with fail
        refine Calls.mono (HDP.out _ ha) ?_
        rintro ev w2' ⟨rfl, hw2⟩
        rw [hw2]
        clear hw2 w2'
        go_wp2_with fail
        refine Calls.mono (HIN.out _ ha) ?_
        rintro ev w3 ⟨rfl, ha3⟩
        have r0 : w3.cell? ⟨R, gs.length * 2, none⟩ = some (.int .i64 (f.pl : Int)) := ((ha.trans ha3).cell _).trans HR0.out
        have HA3 : Hid (Al wr w3) := ha.trans ha3
        clear ha ha3
        go_wp2_with fail
        refine Calls.mono (placed_any _ _ _) ?_
        rintro ev w4 ⟨rfl, hw4⟩
        go_wp2_with fail
        go_ret2
        have hs3 : w3.heap.size = wr.heap.size := by rw [HA3.out.heap]
        have hst : Vt t s0 = ([], f.pl, 20) := by
          rw [HFN.out, HF.out, stOf_snoc]
          obtain ⟨gs2, f2, e⟩ := split_last hg
          rw [e, stOf_snoc]; rfl
        refine ⟨_, _, rfl, Or.inr ?_, ?_⟩
        · rw [hst]
          exact ⟨(show ¬ (20 : Nat) = 0 by decide), (show (20 : Nat) < 100 by decide), rfl, rfl, _, rfl, heap_alloc_new w3 _, by rw [hs3]; omega⟩
        · exact (al_below HBL.out HA3.out).alloc (by rw [hs3]; omega) _
    · obtain ⟨hlt, hb, h59⟩ : ∃ h : k < t.size, blk (t[k]'h) = false ∧ ¬ t[k]'h = 59 := hend.resolve_left he
      have HE : Hid _ := ended_no HP.out.cu hlt
      have HON : Hid (∀ wx, Al wr wx → Calls Tryd.prog 37 #[.pointer (some ⟨p, 0, none⟩)] wx fun ev w' => ∃ er, ev = .returned (.int .i64 (er : Nat)) ∧ OneR wx w' B p t k so fs er ∧ Below B wx w') := fun wx hx => one_any (HP.out.below (hx.below _)) HBD.out (by rw [hx.heap]; omega) hlt ht hb h59
      clear hb h59 hend
      go_wp2_with fail
      refine Calls.mono HE.out ?_
      rintro ev w2 ⟨rfl, ha⟩
      go_wp2_with fail
      refine Calls.mono (HON.out _ ha) ?_
      rintro ev w3 ⟨er, rfl, hR, hb3⟩
      have HB3 : Hid (Below B w w3) := (al_below HBL.out ha).trans hb3
      rcases hR with ⟨h0, D', so', fs', k', hP', hB', hk1, hk2, hV'⟩ | ⟨h0, her, hcu, hV'⟩
      · subst h0
        have HI3 : Hid (AllI w w3 B p t k') := ⟨⟨D', so', fs', hP', hB', by rw [← hV']; exact HV.out⟩, hk2, HB3.out⟩
        clear hP' hB' hV' hb3 ha
        go_wp2_with fail
        refine Calls.mono (HSK.out _ _ HI3.out) ?_
        rintro ev w4 ⟨rfl, j, hI4, hj4, hend4⟩
        go_wp2_with fail
        have hcc := hI4.c1
        have hc0 := hC.out
        exact ⟨⟨j, ⟨hI4, hend4⟩, hcc⟩, by rw [hcc, hc0]; simp [intOf]; omega⟩
      · have hne : ((er : Int) != 0) = true := by simp; omega
        have c1 := hcu.c1
        have HST : Hid (Vt t s0 = ([], k, er)) := HV.out.symm.trans hV'
        have hs3 : B ≤ w3.heap.size := by have := HB3.out.size; omega
        clear hcu hV' hb3 ha
        go_wp2_with fail
        refine Calls.mono (placed_any _ _ _) ?_
        rintro ev w4 ⟨rfl, hw4⟩
        go_wp2_with fail
        go_ret2
        refine ⟨_, _, rfl, Or.inr ?_, ?_⟩
        · rw [HST.out]
          exact ⟨h0, her, rfl, rfl, _, rfl, heap_alloc_new w3 _, hs3⟩
        · exact HB3.out.alloc hs3 _

set_option maxRecDepth 20000 in
set_option maxHeartbeats 3200000 in
theorem Parse_any (t : ByteArray) (w : World) : Calls Tryd.prog 10 #[.string t] w fun ev w' => ∃ v er, ev = .returned (.tuple #[v, er]) ∧ PR w.heap.size w' v er (pars t) ∧ Below w.heap.size w w' := by
  by_cases ht : 65536 < t.size
  · have hi : (65536 : Int) < (t.size : Int) := by omega
    have HP : Hid (pars t = ([], 0, 24)) := by unfold Hid pars; rw [if_pos ht]
    clear ht
    go_enter Tryd.func10, Tryd.ntmps10
    go_wp2_with fail
    refine Calls.mono (placed_any _ _ _) ?_
    rintro ev w4 ⟨rfl, hw4⟩
    go_wp2_with fail
    go_ret2
    refine ⟨_, _, rfl, Or.inr ?_, (Below.refl _ _).alloc (Nat.le_refl _) _⟩
    rw [HP.out]
    exact ⟨(show ¬ (24 : Nat) = 0 by decide), (show (24 : Nat) < 100 by decide), rfl, rfl, _, rfl, heap_alloc_new w _, Nat.le_refl _⟩
  · have hi : (t.size : Int) ≤ 65536 := by omega
    have HP : Hid (pars t = Vt t s0) := pars_Vt ht
    have ht' : t.size ≤ 65536 := by omega
    clear ht
    go_enter Tryd.func10, Tryd.ntmps10
    go_wp2_with fail
    refine Calls.mono (newParser_any t _) ?_
    rintro ev w1 ⟨R, rfl, hR, hRw, hb1⟩
    have hRl : R < w1.heap.size := (Array.getElem?_eq_some_iff.1 hR).1
    obtain ⟨w2, hw2⟩ : ∃ w2, w2 = w1.alloc (.cells #[.string t, .int .i64 0, .slice (some ⟨R, 0, none⟩) 1 1] 54) := ⟨_, rfl⟩
    have hR2 : w2.heap[R]? = some (.cells #[.int .i64 0, .slice none 0 0] 76 (0, 0)) := by rw [hw2]; exact (heap_alloc_old w1 _ hRl).trans hR
    have hp2 : w2.heap[w1.heap.size]? = some (.cells #[.string t, .int .i64 0, .slice (some ⟨R, 0, none⟩) 1 1] 54 (0, 0)) := by rw [hw2]; exact heap_alloc_new w1 _
    have hs1 := hb1.size
    have hs2 : w2.heap.size = w1.heap.size + 1 := by rw [hw2]; simp
    have hbw : Below w.heap.size w w2 := by rw [hw2]; exact hb1.alloc hs1 _
    have hI : AllI w2 w2 w.heap.size w1.heap.size t 0 := by
      refine ⟨⟨fun _ => False, .slice (some ⟨R, 0, none⟩) 1 1, [⟨0, .slice none 0 0, []⟩], ⟨⟨hp2⟩, ⟨⟨rfl, Or.inr ⟨R, 1, _, rfl, hRw, hR2, by simp, by decide, rfl, rfl⟩⟩, ?_, ?_, ?_, (fun _ _ h => h), (fun _ h => h.elim)⟩, ?_, (fun h => h), by omega⟩, ⟨by simp, by simp, ?_⟩, rfl⟩, Nat.zero_le _, Below.refl _ _⟩
      · intro f hf; rw [List.mem_singleton.1 hf]; exact World.ownsRow_nil _ _ _ _
      · intro f hf e he; rw [List.mem_singleton.1 hf] at he; cases he
      · simp [Value.ownBlock, Ap]
      · simp [Value.ownBlock]; omega
      · intro f hf; rw [List.mem_singleton.1 hf]; exact ⟨Nat.le_refl _, Nat.le_refl _⟩
    have HI : Hid _ := hI
    have HBW : Hid _ := hbw
    have HAL : Hid (Calls Tryd.prog 26 #[.pointer (some ⟨w1.heap.size, 0, none⟩)] w2 fun ev w' => ∃ v er, ev = .returned (.tuple #[v, er]) ∧ PR w.heap.size w' v er (Vt t s0) ∧ Below w.heap.size w2 w') := all_any hI ht' (by omega)
    rw [hw2] at HAL
    clear hI hbw hR hR2 hp2 hs2 hb1
    go_wp2_with fail
    refine Calls.mono HAL.out ?_
    rintro ev w3 ⟨v, er, rfl, hPR, hb3⟩
    have HPR : Hid _ := hPR
    have HB3 : Hid (Below w.heap.size w w3) := by rw [← hw2] at hb3; exact HBW.out.trans hb3
    clear hPR hb3 hw2
    go_wp2_with fail
    go_ret2
    exact ⟨_, _, rfl, by rw [HP.out]; exact HPR.out, HB3.out⟩
end Go.Proofs.YtikdjloedeinhaaDoor
