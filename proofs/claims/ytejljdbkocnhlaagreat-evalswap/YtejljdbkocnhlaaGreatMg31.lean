import Derived.Test.YtejljdbkocnhlaaGreatEA13
import Derived.Test.YtejljdbkocnhlaaGreatMg10
namespace Go.Proofs.YtejljdbkocnhlaaGreat
set_option maxHeartbeats 12800000
set_option maxRecDepth 100000
open Go.RowKit
set_option linter.unusedSimpArgs false
set_option linter.unusedVariables false
theorem gb_below {w x : World} {r : Option Nat} (h : Below w.heap.size w x) : w.grownBy x r := ⟨h.os, h.tape, h.output, h.size, fun k hk _ => h.block k hk⟩
theorem gb_on {w x y : World} {r : Option Nat} (h : w.grownBy x r) (hb : Below x.heap.size x y) : w.grownBy y r :=
 ⟨hb.os.trans h.os, hb.tape.trans h.tape, hb.output.trans h.output, Nat.le_trans h.size hb.size, fun k hk hn => (hb.block k (Nat.lt_of_lt_of_le hk h.size)).trans (h.block k hk hn)⟩
theorem gb_trans {w x y : World} {r : Option Nat} (h : w.grownBy x r) (hb : x.grownBy y r) : w.grownBy y r :=
 ⟨hb.os.trans h.os, hb.tape.trans h.tape, hb.output.trans h.output, Nat.le_trans h.size hb.size, fun k hk hn => (hb.block k (Nat.lt_of_lt_of_le hk h.size) hn).trans (h.block k hk hn)⟩
theorem gb_set {w x : World} {r : Option Nat} {b j : Nat} {v : Value} (h : w.grownBy x r) (hb : w.heap.size ≤ b) : w.grownBy (x.setCell ⟨b, j, none⟩ v) r :=
 ⟨h.os, h.tape, h.output, by rw [World.size_setCell]; exact h.size, fun k hk hn => (heap_setCell_other _ _ _ _ (by show k ≠ b; omega)).trans (h.block k hk hn)⟩
theorem Wk.put {w w' : World} {wb g mg mk : Nat} {G M M' : List (Int × Bt)} (h : Wk w wb g mg mk G M) (hg : w.grownBy w' (some mk)) (hb : Bm w' mk M') : Wk w' wb g mg mk G M' :=
 ⟨(hg.block _ (Array.getElem?_eq_some_iff.1 h.hd).1 (fun e => h.ne.2.2 (by cases e; rfl))).trans h.hd, h.gv.kept (hg.block _ h.gv.mp.lt (fun e => h.ne.1 (by cases e; rfl))), hb, h.ne⟩
theorem Wk.lt {w : World} {wb g mg mk : Nat} {G M : List (Int × Bt)} (h : Wk w wb g mg mk G M) : wb < w.heap.size ∧ mg < w.heap.size ∧ mk < w.heap.size := ⟨(Array.getElem?_eq_some_iff.1 h.hd).1, h.gv.mp.lt, h.kn.mp.lt⟩
theorem Wk.set {w : World} {wb g mg mk b j : Nat} {G M : List (Int × Bt)} {v : Value} (h : Wk w wb g mg mk G M) (h1 : wb ≠ b) (h2 : mg ≠ b) (h3 : mk ≠ b) : Wk (w.setCell ⟨b, j, none⟩ v) wb g mg mk G M :=
 ⟨(heap_setCell_other _ _ _ _ h1).trans h.hd, h.gv.kept (heap_setCell_other _ _ _ _ h2), h.kn.kept (heap_setCell_other _ _ _ _ h3), h.ne⟩
theorem val_fin {w x : World} {wb g mg mk : Nat} {G M : List (Int × Bt)} (hW : Wk x wb g mg mk G M) (hg : w.grownBy x (some mk)) (h1 : wb < w.heap.size) (h2 : mg < w.heap.size) (h3 : mk < w.heap.size) (a b c : Value) :
  Wk (((x.setCell ⟨w.heap.size, 0, none⟩ a).setCell ⟨w.heap.size, 1, none⟩ b).setCell ⟨w.heap.size, 2, none⟩ c) wb g mg mk G M ∧ w.grownBy (((x.setCell ⟨w.heap.size, 0, none⟩ a).setCell ⟨w.heap.size, 1, none⟩ b).setCell ⟨w.heap.size, 2, none⟩ c) (some mk) :=
 ⟨((hW.set (by omega) (by omega) (by omega)).set (by omega) (by omega) (by omega)).set (by omega) (by omega) (by omega), gb_set (gb_set (gb_set hg (Nat.le_refl _)) (Nat.le_refl _)) (Nat.le_refl _)⟩
structure MS (w0 w6 : World) (g : Nat → Nat) (L : Nat → Bool) (x : World) : Prop where
 no : L 6 = false → x = w0
 yes : L 6 = true → x = w6 ∧ L 3 = true ∧ L 5 = true
theorem updB_mono {L : Nat → Bool} {i k : Nat} (h : L k = true) : updB L i k = true := by
 unfold updB; split
 ·rfl
 ·exact h
theorem MS.pre {w0 w6 x : World} {g : Nat → Nat} {L : Nat → Bool} {i : Nat} (h : MS w0 w6 g L x) (hi : i = 3 ∨ i = 5) (hL : L i = false) : L 6 = false := by
 cases e : L 6
 ·rfl
 ·rcases hi with rfl | rfl
  ·rw [(h.yes e).2.1] at hL; cases hL
  ·rw [(h.yes e).2.2] at hL; cases hL
theorem MS.go {w0 w6 x : World} {g : Nat → Nat} {L : Nat → Bool} {i : Nat} (h : MS w0 w6 g L x) (hi : i ≠ 6) : MS w0 w6 g (updB L i) x := by
 have u := updB_ne (L := L) (i := i) (k := 6) (Ne.symm hi)
 exact ⟨fun e => h.no (by rw [u] at e; exact e), fun e => by
  rw [u] at e
  obtain ⟨h1, h2, h3⟩ := h.yes e
  exact ⟨h1, updB_mono h2, updB_mono h3⟩⟩
def vLoop (PV : List (Int × Bt) → Int → Bt × Int) : List Int → List (Int × Bt) → List (Int × Bt) × Int
 | [], M => (M, 0)
 | p :: ps, M => if (getM M p).isSome then vLoop PV ps M else if (PV M p).2 = 0 then vLoop PV ps (M ++ [(p, (PV M p).1)]) else (M, (PV M p).2)
theorem val_known {w : World} {g wb mg mk : Nat} {G M : List (Int × Bt)} {id : Int} {y : Bt} (hw : Wk w wb g mg mk G M) (hid : w64 id) (hy : getM M id = some y) :
  Rt 27 #[.pointer (some ⟨wb, 0, none⟩), .int .i64 id] w (.tuple #[.agg #[.int .i64 y.w, .int .u64 y.lo, .int .u64 y.hi], .int .i64 0]) := by
 have c2 : w.cell? ⟨wb, 2, none⟩ = some (.map (some mk)) := cell_of hw.hd 2 rfl
 obtain ⟨hwb, hmg, hmk⟩ := hw.lt
 have hlk : (Instr.lookup 77 (.map (some mk)) (.int .i64 id) true).run Tryz.prog (w.alloc (.cells #[.int .i64 0, .int .u64 0, .int .u64 0] 34)) = .ok (.tuple #[.agg #[.int .i64 y.w, .int .u64 y.lo, .int .u64 y.hi], .bool true]) (w.alloc (.cells #[.int .i64 0, .int .u64 0, .int .u64 0] 34)) := by
  have h1 := (hw.kn.kept (heap_alloc_old w (.cells #[.int .i64 0, .int .u64 0, .int .u64 0] 34) hmk)).look hid
  rw [hy] at h1
  exact h1
 clear hw hy hid hmg hmk
 go_enter Tryz.func27, Tryz.ntmps27
 go_wp2_with fail
 refine bodyPost_ret (v := .tuple #[.agg #[.int .i64 y.w, .int .u64 y.lo, .int .u64 y.hi], .int .i64 0]) (by simp [results, Tryz.results27, go_sem]) rfl ?_
 exact ⟨rfl, by go_grown⟩
theorem val_none {w : World} {B g mi mv mo wb mg mk : Nat} {v : Value} {ns : List Nd} {G M : List (Int × Bt)} {id : Int} (h : Gr w B g mi mv v mo ns) (hw : Wk w wb g mg mk G M) (hid : w64 id) (hy : getM M id = none) (hL : coneL ns id = []) :
  Rt 27 #[.pointer (some ⟨wb, 0, none⟩), .int .i64 id] w (.tuple #[.agg #[.int .i64 0, .int .u64 0, .int .u64 0], .int .i64 40]) := by
 have c0 : w.cell? ⟨wb, 0, none⟩ = some (.pointer (some ⟨g, 0, none⟩)) := cell_of hw.hd 0 rfl
 have c2 : w.cell? ⟨wb, 2, none⟩ = some (.map (some mk)) := cell_of hw.hd 2 rfl
 obtain ⟨hwb, hmg, hmk⟩ := hw.lt
 have hlk : (Instr.lookup 77 (.map (some mk)) (.int .i64 id) true).run Tryz.prog (w.alloc (.cells #[.int .i64 0, .int .u64 0, .int .u64 0] 34)) = .ok (.tuple #[.agg #[.int .i64 0, .int .u64 0, .int .u64 0], .bool false]) (w.alloc (.cells #[.int .i64 0, .int .u64 0, .int .u64 0] 34)) := by
  have h1 := (hw.kn.kept (heap_alloc_old w (.cells #[.int .i64 0, .int .u64 0, .int .u64 0] 34) hmk)).look hid
  rw [hy] at h1
  exact h1
 have HC : Hid (∀ wx, Below w.heap.size w wx → Calls Tryz.prog 20 #[.pointer (some ⟨g, 0, none⟩), .int .i64 id] wx fun e w' => ∃ u, e = .returned u ∧ Rl w' wx.heap.size u [] ∧ Below wx.heap.size wx w') := fun wx hb => by
  have h1 := cone_any (h.below hb) id
  rw [hL] at h1
  exact h1
 clear h hw hy hid hmg hmk hL
 go_enter Tryz.func27, Tryz.ntmps27
 go_wp2_with fail
 refine Calls.mono (HC.out _ (by go_grown)) ?_
 rintro e w1 ⟨u, rfl, ⟨a, c, rfl, -, -, -⟩, hb⟩
 have hB : Below w.heap.size w w1 := Below.trans (by go_grown) (hb.mono (by simp; omega))
 have hr : w1.heap[w.heap.size]? = some (.cells #[.int .i64 0, .int .u64 0, .int .u64 0] 34) := (hb.block _ (by simp; omega)).trans ((heap_alloc_old _ _ (by simp)).trans (heap_alloc_new w _))
 have r0 : w1.cell? ⟨w.heap.size, 0, none⟩ = some (.int .i64 0) := cell_of hr 0 rfl
 have r1 : w1.cell? ⟨w.heap.size, 1, none⟩ = some (.int .u64 0) := cell_of hr 1 rfl
 have r2 : w1.cell? ⟨w.heap.size, 2, none⟩ = some (.int .u64 0) := cell_of hr 2 rfl
 have rf : ∀ j, w1.frozen? ⟨w.heap.size, j, none⟩ = false := fun j => by simp [World.frozen?, hr]
 clear hb hr
 go_wp2_with fail
 refine bodyPost_ret (v := .tuple #[.agg #[.int .i64 0, .int .u64 0, .int .u64 0], .int .i64 40]) (by simp [results, Tryz.results27, go_sem, r0, r1, r2]) rfl ?_
 exact ⟨rfl, by go_grown⟩
theorem val_loop {w : World} {B g mi mv mo wb mg mk : Nat} {v : Value} {ns : List Nd} {G M M1 : List (Int × Bt)} {id er : Int} {R : Bt} {L : List Int} {PV : List (Int × Bt) → Int → Bt × Int} {I : Nat → List (Int × Bt) → Prop}
  (HG : Hid (∀ wx, w.grownBy wx (some mk) → Gr wx B g mi mv v mo ns)) (hw : Wk w wb g mg mk G M) (hid : w64 id) (hy : getM M id = none) (hL : coneL ns id = L) (hne : L ≠ []) (hr : ∀ p ∈ L, 1 ≤ p ∧ p ≤ 4096)
  (HPV : Hid (∀ k p M' wx, L[k]? = some p → I k M' → w.grownBy wx (some mk) → Wk wx wb g mg mk G M' → Rt 48 #[.pointer (some ⟨wb, 0, none⟩), .int .i64 p] wx (.tuple #[.agg #[.int .i64 (PV M' p).1.w, .int .u64 (PV M' p).1.lo, .int .u64 (PV M' p).1.hi], .int .i64 (PV M' p).2])))
  (HI0 : Hid (I 0 M)) (HIS : Hid (∀ k p M', L[k]? = some p → I k M' → ((getM M' p).isSome = true → I (k + 1) M') ∧ (getM M' p = none → (PV M' p).2 = 0 → I (k + 1) (M' ++ [(p, (PV M' p).1)]))))
  (hv : vLoop PV L M = (M1, er)) (hR : R = if er = 0 then (getM M1 id).getD zBt else zBt) :
  Calls Tryz.prog 27 #[.pointer (some ⟨wb, 0, none⟩), .int .i64 id] w fun e w' => e = .returned (.tuple #[.agg #[.int .i64 R.w, .int .u64 R.lo, .int .u64 R.hi], .int .i64 er]) ∧ Wk w' wb g mg mk G M1 ∧ w.grownBy w' (some mk) := by
 have c0 : w.cell? ⟨wb, 0, none⟩ = some (.pointer (some ⟨g, 0, none⟩)) := cell_of hw.hd 0 rfl
 have c2 : w.cell? ⟨wb, 2, none⟩ = some (.map (some mk)) := cell_of hw.hd 2 rfl
 obtain ⟨hwb, hmg, hmk⟩ := hw.lt
 have hlk : (Instr.lookup 77 (.map (some mk)) (.int .i64 id) true).run Tryz.prog (w.alloc (.cells #[.int .i64 0, .int .u64 0, .int .u64 0] 34)) = .ok (.tuple #[.agg #[.int .i64 0, .int .u64 0, .int .u64 0], .bool false]) (w.alloc (.cells #[.int .i64 0, .int .u64 0, .int .u64 0] 34)) := by
  have h1 := (hw.kn.kept (heap_alloc_old w (.cells #[.int .i64 0, .int .u64 0, .int .u64 0] 34) hmk)).look hid
  rw [hy] at h1
  exact h1
 have HC : Hid (∀ wx, Below w.heap.size w wx → Calls Tryz.prog 20 #[.pointer (some ⟨g, 0, none⟩), .int .i64 id] wx fun e w' => ∃ u, e = .returned u ∧ Rl w' wx.heap.size u L ∧ Below wx.heap.size wx w') := fun wx hb => by
  have h1 := cone_any (HG.out wx (gb_below hb)) id
  rw [hL] at h1
  exact h1
 have HW : Hid _ := hw
 have HV : Hid _ := hv
 have HR : Hid _ := hR
 have HRG : Hid _ := hr
 have HID : Hid _ := hid
 have HNE : Hid _ := hne
 obtain ⟨n, hn⟩ : ∃ n, n = L.length := ⟨_, rfl⟩
 have HN : Hid _ := hn
 have hn0 : ((n : Int) == 0) = false := by
  have : n ≠ 0 := by rw [hn]; exact fun e => hne (List.length_eq_zero_iff.1 e)
  simp; omega
 clear hw hv hR hr hid hy hL hne hn
 go_enter Tryz.func27, Tryz.ntmps27
 go_wp2_with fail
 refine Calls.mono (HC.out _ (by go_grown)) ?_
 rintro e w1 ⟨u, rfl, ⟨a, c, rfl, hc, hl5, hli⟩, hb⟩
 rw [← HN.out] at hc hl5 ⊢
 obtain ⟨r, rfl, hrw, hLi⟩ := hli.resolve_left HNE.out
 have hB : Below w.heap.size w w1 := Below.trans (by go_grown) (hb.mono (by simp; omega))
 have hs1 : w.heap.size + 2 ≤ w1.heap.size := by have := hb.size; simp at this; omega
 have hrw' : w.heap.size + 2 ≤ r := by simpa using hrw
 have hz : w1.heap[w.heap.size]? = some (.cells #[.int .i64 0, .int .u64 0, .int .u64 0] 34) := (hb.block _ (by simp; omega)).trans ((heap_alloc_old _ _ (by simp)).trans (heap_alloc_new w _))
 have HLI : Hid _ := hLi
 have HZ : Hid _ := hz
 have HB : Hid _ := hB
 clear hb hrw hLi hz hB hlk c0 c2
 go_wp2_with fail
 go_loopw [38] (fun i wr => ∃ (k : Nat) (M' : List (Int × Bt)), k ≤ n ∧ i = .int .i64 (k : Int) ∧ Hid (I k M' ∧ vLoop PV (L.drop k) M' = (M1, er) ∧ Wk wr wb g mg mk G M' ∧ w1.grownBy wr (some mk))) (fun i wr => n - (intOf i).toNat)
 case atStart => exact ⟨0, M, Nat.zero_le _, rfl, HI0.out, by rw [List.drop_zero]; exact HV.out, HW.out.below HB.out, gb_below (Below.refl _ _)⟩
 case round =>
  obtain ⟨k, M', hk, rfl, hH⟩ := hrel
  have hgw : Hid (w.grownBy wr (some mk)) := gb_trans (gb_below HB.out) hH.out.2.2.2
  have c2 : wr.cell? ⟨wb, 2, none⟩ = some (.map (some mk)) := cell_of hH.out.2.2.1.hd 2 rfl
  have hsr : w1.heap.size ≤ wr.heap.size := hH.out.2.2.2.size
  have hwr : wb < wr.heap.size := by omega
  have hzr : wr.heap[w.heap.size]? = some (.cells #[.int .i64 0, .int .u64 0, .int .u64 0] 34) := (hH.out.2.2.2.block _ (by omega) (fun e => by cases e; omega)).trans HZ.out
  have HZR : Hid _ := hzr
  have hzl : w.heap.size < wr.heap.size := by omega
  clear hzr
  by_cases hlt : k < n
  ·obtain ⟨p, hp⟩ : ∃ p, L[k]? = some p := ⟨_, List.getElem?_eq_getElem (by rw [← HN.out]; exact hlt)⟩
   have hcell : wr.cell? ⟨r, k, none⟩ = some (.int .i64 p) := by
    have h1 := HLI.out k (by rw [← HN.out]; exact hlt)
    rw [Nat.zero_add, List.getD_eq_getElem?_getD, hp] at h1
    rw [World.cell?_of_block (hH.out.2.2.2.block r (World.block_lt_of_cell? _ ⟨r, k, none⟩ h1) (fun e => by cases e; omega))]
    exact h1
   have hltI : (k : Int) < (n : Int) := by omega
   have hp64 : w64 p := by have := HRG.out p (List.mem_of_getElem? hp); unfold w64; omega
   have HP : Hid _ := hp
   have HP64 : Hid _ := hp64
   have HD : Hid (vLoop PV (p :: L.drop (k + 1)) M' = (M1, er)) := by
    have h1 := hH.out.2.1
    rw [List.drop_eq_getElem_cons (by rw [← HN.out]; exact hlt)] at h1
    rw [show L[k]'(by rw [← HN.out]; exact hlt) = p from by rw [List.getElem?_eq_getElem (by rw [← HN.out]; exact hlt)] at hp; exact Option.some.inj hp] at h1
    exact h1
   clear hp hp64
   obtain ⟨y, hy⟩ : ∃ y, y = (getM M' p).getD zBt := ⟨_, rfl⟩
   obtain ⟨f, hf⟩ : ∃ f, f = (getM M' p).isSome := ⟨_, rfl⟩
   have hlk : (Instr.lookup 77 (.map (some mk)) (.int .i64 p) true).run Tryz.prog wr = .ok (.tuple #[.agg #[.int .i64 y.w, .int .u64 y.lo, .int .u64 y.hi], .bool f]) wr := by
    rw [hy, hf]
    exact hH.out.2.2.1.kn.look HP64.out
   have HF : Hid _ := hf
   clear hy hf
   cases f
   ·have hno : getM M' p = none := by simpa using HF.out.symm
    have HNO : Hid _ := hno
    obtain ⟨u, hu⟩ : ∃ u, u = (PV M' p).1 := ⟨_, rfl⟩
    obtain ⟨e0, he0⟩ : ∃ e0, e0 = (PV M' p).2 := ⟨_, rfl⟩
    have HPQ : Hid (∀ wx, wr.grownBy wx none → Rt 48 #[.pointer (some ⟨wb, 0, none⟩), .int .i64 p] wx (.tuple #[.agg #[.int .i64 u.w, .int .u64 u.lo, .int .u64 u.hi], .int .i64 e0])) := fun wx hx => by
     rw [hu, he0]
     have hx' : Below wr.heap.size wr wx := ⟨hx.os, hx.tape, hx.output, hx.size, fun k hk => hx.block k hk (fun e => by cases e)⟩
     exact HPV.out k p M' wx HP.out hH.out.1 (gb_on hgw.out hx') (hH.out.2.2.1.below hx')
    have HD2 : Hid (if e0 = 0 then vLoop PV (L.drop (k + 1)) (M' ++ [(p, u)]) = (M1, er) else M1 = M' ∧ er = e0) := by
     have h1 := HD.out
     simp only [vLoop, hno, Option.isSome_none, Bool.false_eq_true, if_false, ← he0, ← hu] at h1
     show ite _ _ _
     split
     ·rename_i h; rw [if_pos h] at h1; exact h1
     ·rename_i h; rw [if_neg h] at h1; cases h1; exact ⟨rfl, rfl⟩
    have HIX : Hid (e0 = 0 → I (k + 1) (M' ++ [(p, u)])) := fun h => by
     rw [hu]; exact (HIS.out k p M' HP.out hH.out.1).2 hno (by rw [← he0]; exact h)
    clear hno hu he0 HF
    go_wp2_with fail
    refine Calls.mono (HPQ.out _ (gb_below (by go_grown))) ?_
    rintro e w2 ⟨rfl, hb2⟩
    have hB2 : Below wr.heap.size wr w2 := Below.trans (by go_grown) (hb2.mono (by simp))
    have hs2 := hB2.size
    have hzr : w2.heap[w.heap.size]? = some (.cells #[.int .i64 0, .int .u64 0, .int .u64 0] 34) := (hB2.block _ hzl).trans HZR.out
    have HW2 : Hid _ := hH.out.2.2.1.below hB2
    have HG2 : Hid _ := gb_on hH.out.2.2.2 hB2
    have c22 : w2.cell? ⟨wb, 2, none⟩ = some (.map (some mk)) := bel_cell hB2 hwr c2
    have hwr2 : wb < w2.heap.size := by omega
    have hmk2 : mk < w2.heap.size := by omega
    clear hb2 hB2 c2
    by_cases he : e0 = 0
    ·subst he
     have HM1 : Hid (vLoop PV (L.drop (k + 1)) (M' ++ [(p, u)]) = (M1, er)) := by have h := HD2.out; rw [if_pos rfl] at h; exact h
     have hix : Hid _ := HIX.out rfl
     clear HD2 HIX hzr
     go_wp2_with fail
     refine wp_world fun wS hwS => ?_
     have hBS : Below w2.heap.size w2 wS := by rw [← hwS]; exact (Below.refl _ _).alloc (Nat.le_refl _) _
     have hsS : wS.heap.size = w2.heap.size + 1 := by rw [← hwS, size_alloc']
     have hvS : wS.heap[w2.heap.size]? = some (.cells #[.int .i64 u.w, .int .u64 u.lo, .int .u64 u.hi] 34) := by rw [← hwS]; exact heap_alloc_new w2 _
     have s0 : wS.drew.cell? ⟨w2.heap.size, 0, none⟩ = some (.int .i64 u.w) := cell_of (w := wS.drew) hvS 0 rfl
     have s1 : wS.drew.cell? ⟨w2.heap.size, 1, none⟩ = some (.int .u64 u.lo) := cell_of (w := wS.drew) hvS 1 rfl
     have s2 : wS.drew.cell? ⟨w2.heap.size, 2, none⟩ = some (.int .u64 u.hi) := cell_of (w := wS.drew) hvS 2 rfl
     have q2 : wS.drew.cell? ⟨wb, 2, none⟩ = some (.map (some mk)) := bel_cell hBS.drew hwr2 c22
     have hl1 : w2.heap.size < wS.drew.heap.size := by show w2.heap.size < wS.heap.size; omega
     have hl2 : wb < wS.drew.heap.size := by show wb < wS.heap.size; omega
     obtain ⟨w6, hmu, hM6, hg6, hs6⟩ := Bm.put (w := wS.drew) ((HW2.out.kn.kept (hBS.drew.block _ hmk2))) HP64.out u HNO.out
     have hmu2 : (Instr.mapUpdate 77 (.map (some mk)) (.int .i64 p) (.agg #[.int .i64 u.w, .int .u64 u.lo, .int .u64 u.hi])).run Tryz.prog wS.drew = .ok () w6 := hmu
     have HW6 : Hid _ := (HW2.out.below hBS.drew).put hg6 hM6
     have HG6 : Hid _ := gb_trans (gb_on HG2.out hBS.drew) hg6
     clear hmu hM6 hg6 hs6 hwS hvS hBS c22
     refine wp_named fun a0 ha0 => ?_
     have o0 := old_at ha0 (t := 0) rfl
     have o10 := old_at ha0 (t := 10) rfl
     have o13 := old_at ha0 (t := 13) rfl
     refine wp_region_lin (S := MS wS.drew w6) [] (fun _ => 0) (by kernel_rfl) (by kernel_rfl) (by rw [← ha0]; kernel_rfl) ⟨fun _ => rfl, fun e => by cases e⟩ ?_
     refine' LinAll.cons _ ?_ ?_ ?_
     rotate_left 1
     ·intro g L a x hLi haft hS hK
      have t0 := (hK.old 0 (by kernel_rfl)).trans o0
      try dsimp only at t0
      refine go_in (wanted_all rfl) ?_
      intro K hk
      clear haft hK hLi
      go_simp
      exact hk.out g _ (fun _ _ => rfl) (hS.go (by decide))
     ·intro i hi
      cases hi
     refine' LinAll.cons _ ?_ ?_ ?_
     rotate_left 1
     ·intro g L a x hLi haft hS hK
      have t62 := hK.nw haft 0 0 62 rfl (by kernel_rfl)
      try dsimp only at t62
      refine go_in (wanted_all rfl) ?_
      intro K hk
      clear haft hK hLi
      go_simp
      exact hk.out g _ (fun _ _ => rfl) (hS.go (by decide))
     ·intro i hi
      cases hi
     refine' LinAll.cons _ ?_ ?_ ?_
     rotate_left 1
     ·intro g L a x hLi haft hS hK
      have t63 := hK.nw haft 1 0 63 rfl (by kernel_rfl)
      try dsimp only at t63
      refine go_in (wanted_all rfl) ?_
      intro K hk
      clear haft hK hLi
      go_simp
      exact hk.out g _ (fun _ _ => rfl) (hS.go (by decide))
     ·intro i hi
      cases hi
     refine' LinAll.cons _ ?_ ?_ ?_
     rotate_left 1
     ·intro g L a x hLi haft hS hK
      have t64 := hK.nw haft 2 0 64 rfl (by kernel_rfl)
      try dsimp only at t64
      refine go_in (wanted_all rfl) ?_
      intro K hk
      obtain rfl := hS.no (hS.pre (by decide) hLi)
      clear haft hK hLi
      go_simp
      exact hk.out g _ (fun _ _ => rfl) (hS.go (by decide))
     ·intro i hi
      cases hi
     refine' LinAll.cons _ ?_ ?_ ?_
     rotate_left 1
     ·intro g L a x hLi haft hS hK
      have t10 := (hK.old 10 (by kernel_rfl)).trans o10
      try dsimp only at t10
      refine go_in (wanted_all rfl) ?_
      intro K hk
      clear haft hK hLi
      go_simp
      exact hk.out g _ (fun _ _ => rfl) (hS.go (by decide))
     ·intro i hi
      cases hi
     refine' LinAll.cons _ ?_ ?_ ?_
     rotate_left 1
     ·intro g L a x hLi haft hS hK
      have t13 := (hK.old 13 (by kernel_rfl)).trans o13
      try dsimp only at t13
      refine go_in (wanted_all rfl) ?_
      intro K hk
      obtain rfl := hS.no (hS.pre (by decide) hLi)
      clear haft hK hLi
      go_simp
      exact hk.out g _ (fun _ _ => rfl) (hS.go (by decide))
     ·intro i hi
      cases hi
     refine LinAll.cons (fun _ => undef) ?_ ?_ ?_
     ·intro g L a x hLi haft hS hK
      have t65 := hK.nw haft 3 2 65 rfl (by kernel_rfl)
      have t66 := hK.nw haft 4 1 66 rfl (by kernel_rfl)
      have t67 := hK.nw haft 5 0 67 rfl (by kernel_rfl)
      try dsimp only at t65 t66 t67
      refine go_in (wanted_all rfl) ?_
      intro K hk
      obtain rfl := hS.no hLi
      have l3 := waits haft 3 (by kernel_rfl)
      have l5 := waits haft 5 (by kernel_rfl)
      clear hK haft
      go_simp
      exact hk.out g _ (fun _ _ => rfl) ⟨(fun e => by rw [updB_eq] at e; cases e), fun _ => ⟨rfl, updB_mono l3, updB_mono l5⟩⟩
     ·intro i hi
      cases hi
     refine LinAll.nil fun g x hS => ?_
     obtain rfl := (hS.yes rfl).1
     subst ha0
     simp only [Act.put, List.setIfInBounds_toArray, List.set_cons_zero, List.set_cons_succ]
     clear o0 o10 o13 hS
     go_wp2_with fail
     exact ⟨⟨k + 1, M' ++ [(p, u)], by omega, by go_num, hix.out, HM1.out, HW6.out, HG6.out⟩, by simp [intOf]; omega⟩
    ·have z1 : (e0 == 0) = false := by simpa using he
     have z2 : (e0 != 0) = true := by simpa using he
     have HM1 : Hid (M1 = M' ∧ er = e0) := by have h := HD2.out; rw [if_neg he] at h; exact h
     have r0 : w2.cell? ⟨w.heap.size, 0, none⟩ = some (.int .i64 0) := cell_of hzr 0 rfl
     have r1 : w2.cell? ⟨w.heap.size, 1, none⟩ = some (.int .u64 0) := cell_of hzr 1 rfl
     have r2 : w2.cell? ⟨w.heap.size, 2, none⟩ = some (.int .u64 0) := cell_of hzr 2 rfl
     have rf : ∀ j, w2.frozen? ⟨w.heap.size, j, none⟩ = false := fun j => by simp [World.frozen?, hzr]
     have hz2 : w.heap.size < w2.heap.size := by omega
     clear HD2 HIX hzr
     go_wp2_with fail
     refine bodyPost_ret (v := .tuple #[.agg #[.int .i64 0, .int .u64 0, .int .u64 0], .int .i64 e0]) (by simp [results, Tryz.results27, go_sem, r0, r1, r2, hz2]) rfl ?_
     have hfin := val_fin HW2.out (gb_trans (gb_below HB.out) HG2.out) hwb hmg hmk (.int .i64 0) (.int .u64 0) (.int .u64 0)
     obtain ⟨q1, q2⟩ := HM1.out
     have hRz : R = zBt := by rw [HR.out, if_neg (by rw [q2]; exact he)]
     rw [hRz, q1, q2]
     exact ⟨rfl, hfin.1.below ((Below.refl _ _).alloc (Nat.le_refl _) _), gb_on hfin.2 ((Below.refl _ _).alloc (Nat.le_refl _) _)⟩
   ·have HX : Hid _ := (HIS.out k p M' HP.out hH.out.1).1 HF.out.symm
    have HDX : Hid (vLoop PV (L.drop (k + 1)) M' = (M1, er)) := by
     have h1 := HD.out
     simp only [vLoop, ← HF.out, if_true] at h1
     exact h1
    go_wp2_with fail
    exact ⟨⟨k + 1, M', by omega, by go_num, HX.out, HDX.out, hH.out.2.2.1.below (by go_grown), gb_on hH.out.2.2.2 (by go_grown)⟩, by simp [intOf]; omega⟩
  ·obtain rfl : k = n := by omega
   have hltI : ¬ (k : Int) < (k : Int) := by omega
   have HD : Hid (M1 = M' ∧ er = 0) := by
    have h1 := hH.out.2.1
    rw [List.drop_eq_nil_of_le (by rw [← HN.out]; exact Nat.le_refl _)] at h1
    simp only [vLoop] at h1
    cases h1; exact ⟨rfl, rfl⟩
   have hRv : R = (getM M' id).getD zBt := by rw [HR.out, HD.out.1, HD.out.2, if_pos rfl]
   have hl1 : (Instr.lookup 77 (.map (some mk)) (.int .i64 id) false).run Tryz.prog wr = .ok (.agg #[.int .i64 R.w, .int .u64 R.lo, .int .u64 R.hi]) wr := by
    rw [hRv]; exact hH.out.2.2.1.kn.look1 HID.out
   have r0 : wr.cell? ⟨w.heap.size, 0, none⟩ = some (.int .i64 0) := cell_of HZR.out 0 rfl
   have r1 : wr.cell? ⟨w.heap.size, 1, none⟩ = some (.int .u64 0) := cell_of HZR.out 1 rfl
   have r2 : wr.cell? ⟨w.heap.size, 2, none⟩ = some (.int .u64 0) := cell_of HZR.out 2 rfl
   have rf : ∀ j, wr.frozen? ⟨w.heap.size, j, none⟩ = false := fun j => by have h := HZR.out; simp [World.frozen?, h]
   clear hRv
   go_wp2_with fail
   refine bodyPost_ret (v := .tuple #[.agg #[.int .i64 R.w, .int .u64 R.lo, .int .u64 R.hi], .int .i64 0]) (by simp [results, Tryz.results27, go_sem, r0, r1, r2, hzl]) rfl ?_
   have hfin := val_fin hH.out.2.2.1 hgw.out hwb hmg hmk (.int .i64 R.w) (.int .u64 R.lo) (.int .u64 R.hi)
   rw [HD.out.1, HD.out.2]
   exact ⟨rfl, hfin.1, hfin.2⟩
theorem Le.below {w x : World} {a : Option Addr} {l : List Nv} (h : Le w a l) (hb : Below w.heap.size w x) : Le x a l := by
 rcases h with h | ⟨g, o, ha, hg, hc⟩
 ·exact Or.inl h
 ·exact Or.inr ⟨g, o, ha, Nat.lt_of_lt_of_le hg hb.size, fun j y hj t u hu => bel_cell hb hg (hc j y hj t u hu)⟩
theorem eval_of {w : World} {B g mi mv mo c : Nat} {v : Value} {ns : List Nd} {a : Option Addr} {l : List Nv} {id er : Int} {R : Bt} (h : Gr w B g mi mv v mo ns) (he : Le w a l) (hnm : ∀ x ∈ l, x.nm.size ≤ maxLen) (hl : l.length ≤ 1000)
  (HVL : Hid (∀ wx wb mg mk, Below w.heap.size w wx → w.heap.size ≤ mk → Wk wx wb g mg mk (fvF ns l) [] → Calls Tryz.prog 27 #[.pointer (some ⟨wb, 0, none⟩), .int .i64 id] wx fun e w' => e = .returned (.tuple #[.agg #[.int .i64 R.w, .int .u64 R.lo, .int .u64 R.hi], .int .i64 er]) ∧ wx.grownBy w' (some mk))) :
  Rt 9 #[.pointer (some ⟨g, 0, none⟩), .int .i64 id, .slice a l.length c] w (.tuple #[.agg #[.int .i64 R.w, .int .u64 R.lo, .int .u64 R.hi], .int .i64 er]) := by
 have HNW : Hid (∀ wx, Below w.heap.size w wx → Calls Tryz.prog 26 #[.pointer (some ⟨g, 0, none⟩), .slice a l.length c] wx fun e w' => ∃ wb mk, e = .returned (.pointer (some ⟨wb, 0, none⟩)) ∧ wx.heap.size ≤ wb ∧ wx.heap.size ≤ mk ∧ Wk w' wb g wx.heap.size mk (fvF ns l) [] ∧ Below wx.heap.size wx w') := fun wx hb => nw_any (h.below hb) (he.below hb) hnm hl
 obtain ⟨n, hn⟩ : ∃ n, n = l.length := ⟨_, rfl⟩
 rw [← hn] at HNW ⊢
 clear h he hnm hl hn
 go_enter Tryz.func9, Tryz.ntmps9
 go_wp2_with fail
 refine Calls.mono (HNW.out _ (by go_grown)) ?_
 rintro e w1 ⟨wb, mk, rfl, hwb, hmk, hW, hb⟩
 have hB : Below w.heap.size w w1 := Below.trans (by go_grown) (hb.mono (by simp))
 have hmk' : w.heap.size + 1 ≤ mk := by simpa using hmk
 have hr : w1.heap[w.heap.size]? = some (.cells #[.int .i64 0, .int .u64 0, .int .u64 0] 34) := (hb.block _ (by simp)).trans (heap_alloc_new w _)
 have hs1 : w.heap.size < w1.heap.size := by have := hb.size; simp at this; omega
 have HW : Hid _ := hW
 have HR : Hid _ := hr
 clear hW hr hwb hmk hb
 go_wp2_with fail
 refine Calls.mono (HVL.out _ _ _ _ hB (by omega) HW.out) ?_
 rintro e w2 ⟨rfl, hg⟩
 have hr2 : w2.heap[w.heap.size]? = some (.cells #[.int .i64 0, .int .u64 0, .int .u64 0] 34) := (hg.block _ hs1 (fun e => by cases e; omega)).trans HR.out
 have hB2 : Below w.heap.size w w2 := hB.trans ⟨hg.os, hg.tape, hg.output, hg.size, fun k hk => hg.block k (by omega) (fun e => by cases e; omega)⟩
 have r0 : w2.cell? ⟨w.heap.size, 0, none⟩ = some (.int .i64 0) := cell_of hr2 0 rfl
 have r1 : w2.cell? ⟨w.heap.size, 1, none⟩ = some (.int .u64 0) := cell_of hr2 1 rfl
 have r2 : w2.cell? ⟨w.heap.size, 2, none⟩ = some (.int .u64 0) := cell_of hr2 2 rfl
 have rf : ∀ j, w2.frozen? ⟨w.heap.size, j, none⟩ = false := fun j => by simp [World.frozen?, hr2]
 have hs2 : w.heap.size < w2.heap.size := by have := hg.size; omega
 clear hg hr2 HR HW
 go_wp2_with fail
 refine bodyPost_ret (v := .tuple #[.agg #[.int .i64 R.w, .int .u64 R.lo, .int .u64 R.hi], .int .i64 er]) (by simp [results, Tryz.results9, go_sem, r0, r1, r2, hs2]) rfl ?_
 exact ⟨rfl, by go_grown⟩
def Bv' (w : World) (base : Nat) (v : Value) (l : List Bt) : Prop := w.ownsRow base 34 3 v l.length (l.flatMap Bt.cs)
def aLoop (VF : List (Int × Bt) → Int → List (Int × Bt) × Bt × Int) : List Int → List (Int × Bt) → List Bt × Int
 | [], _ => ([], 0)
 | p :: ps, M => if (VF M p).2.2 = 0 then ((VF M p).2.1 :: (aLoop VF ps (VF M p).1).1, (aLoop VF ps (VF M p).1).2) else ([], (VF M p).2.2)
def AllR (w : World) (b : Nat) (u : Value) (vs : List Bt) (er : Int) : Prop := if er = 0 then Bv' w b u vs else u = .slice none 0 0
theorem infoB : (Tryz.prog.info? 34).map (fun i => (i.zero, i.size, i.bytes)) = some (some (.agg #[.int .i64 0, .int .u64 0, .int .u64 0]), 3, 24) := by kernel_rfl
theorem underB : Tryz.prog.underlying 40 = some (.slice 34) := by kernel_rfl
theorem one_bt (b : Bt) : ∀ u ∈ b.cs, u.oneCell' = true := by
 intro u hu
 simp only [Bt.cs, List.mem_cons, List.not_mem_nil, or_false] at hu
 rcases hu with rfl | rfl | rfl <;> rfl
theorem cells_new3 {w : World} {x y z : Value} {t : TypeId} {b : Nat} (hb : b = w.heap.size) : ∀ j u, [x, y, z][j]? = some u → (w.alloc (.cells #[x, y, z] t)).cell? ((⟨b, 0, none⟩ : Addr).add j) = some u := by
 subst hb
 intro j u hj
 have h := cell_of (heap_alloc_new w (.cells #[x, y, z] t)) j (v := u) (by simpa using hj)
 rw [show ((⟨w.heap.size, 0, none⟩ : Addr).add j) = ⟨w.heap.size, j, none⟩ by simp only [Addr.add]; split <;> simp_all]
 exact h
theorem Wk.far {x y : World} {wb g mg mk : Nat} {G M : List (Int × Bt)} {row : Option Nat} {n : Nat} (h : Wk x wb g mg mk G M) (hg : x.grownBy y row) (hr : ∀ q, row = some q → n ≤ q) (h1 : wb < n) (h2 : mg < n) (h3 : mk < n) : Wk y wb g mg mk G M :=
 ⟨(hg.block _ h.lt.1 (fun e => by have := hr _ e.symm; omega)).trans h.hd, h.gv.kept (hg.block _ h.lt.2.1 (fun e => by have := hr _ e.symm; omega)), h.kn.kept (hg.block _ h.lt.2.2 (fun e => by have := hr _ e.symm; omega)), h.ne⟩
theorem row_low {w : World} {b b' : Nat} {e : TypeId} {sz : Nat} {v : Value} {n : Nat} {xs : List Value} (h : w.ownsRow b e sz v n xs) (hb : b' ≤ b) : w.ownsRow b' e sz v n xs := by
 refine ⟨h.1, ?_⟩
 rcases h.2 with hn | ⟨r, cap, cur, h1, h2, rest⟩
 ·exact .inl hn
 ·exact .inr ⟨r, cap, cur, h1, Nat.le_trans hb h2, rest⟩
theorem all_of {w : World} {B g mi mv mo c gi oi ci : Nat} {v : Value} {ns : List Nd} {a : Option Addr} {l : List Nv} {ids : List Int} {vs : List Bt} {er : Int} {VF : List (Int × Bt) → Int → List (Int × Bt) × Bt × Int} {I : Nat → List (Int × Bt) → Prop} (h : Gr w B g mi mv v mo ns) (he : Le w a l) (hnm : ∀ x ∈ l, x.nm.size ≤ maxLen) (hl : l.length ≤ 1000)
  (hids : Li w gi oi ids) (hgi : gi < w.heap.size) (hil : ids.length ≤ 1000)
  (HVL : Hid (∀ k p M' wx wb mg mk, ids[k]? = some p → I k M' → (∀ q, q < w.heap.size → wx.heap[q]? = w.heap[q]?) → w.grownBy wx none → w.heap.size ≤ mk → Wk wx wb g mg mk (fvF ns l) M' → Calls Tryz.prog 27 #[.pointer (some ⟨wb, 0, none⟩), .int .i64 p] wx fun e w' => e = .returned (.tuple #[.agg #[.int .i64 (VF M' p).2.1.w, .int .u64 (VF M' p).2.1.lo, .int .u64 (VF M' p).2.1.hi], .int .i64 (VF M' p).2.2]) ∧ Wk w' wb g mg mk (fvF ns l) (VF M' p).1 ∧ wx.grownBy w' (some mk)))
  (HI0 : Hid (I 0 [])) (HIS : Hid (∀ k p M', ids[k]? = some p → I k M' → (VF M' p).2.2 = 0 → I (k + 1) (VF M' p).1)) (hv : aLoop VF ids [] = (vs, er)) :
  Calls Tryz.prog 11 #[.pointer (some ⟨g, 0, none⟩), .slice (some ⟨gi, oi, none⟩) ids.length ci, .slice a l.length c] w fun e w' => ∃ u, e = .returned (.tuple #[u, .int .i64 er]) ∧ AllR w' w.heap.size u vs er ∧ Below w.heap.size w w' := by
 have HNW : Hid (∀ wx, Below w.heap.size w wx → Calls Tryz.prog 26 #[.pointer (some ⟨g, 0, none⟩), .slice a l.length c] wx fun e w' => ∃ wb mk, e = .returned (.pointer (some ⟨wb, 0, none⟩)) ∧ wx.heap.size ≤ wb ∧ wx.heap.size ≤ mk ∧ Wk w' wb g wx.heap.size mk (fvF ns l) [] ∧ Below wx.heap.size wx w') := fun wx hb => nw_any (h.below hb) (he.below hb) hnm hl
 obtain ⟨n, hn⟩ : ∃ n, n = l.length := ⟨_, rfl⟩
 rw [← hn] at HNW ⊢
 obtain ⟨N, hN⟩ : ∃ N, N = ids.length := ⟨_, rfl⟩
 have HN : Hid _ := hN
 rw [← hN] at hil ⊢
 obtain ⟨t0, ht0, hz0, hz1, hz2⟩ := info_parts infoB
 have HI : Hid (Tryz.prog.info? 34 = some t0 ∧ t0.zero = some (.agg #[.int .i64 0, .int .u64 0, .int .u64 0]) ∧ t0.size = 3 ∧ t0.bytes = 24) := ⟨ht0, hz0, hz1, hz2⟩
 have HLI : Hid _ := hids
 have HV : Hid _ := hv
 clear h he hnm hl hn hN hids hv ht0 hz0 hz1 hz2
 go_enter Tryz.func11, Tryz.ntmps11
 go_wp2_with fail
 refine Calls.mono (HNW.out _ (Below.refl _ _)) ?_
 rintro e w1 ⟨wb, mk, rfl, hwb, hmk, hW, hB⟩
 obtain ⟨w2, hmks, hown, hgr⟩ := run_make_own (P := Tryz.prog) w1 w1.heap.size 40 34 t0 (.agg #[.int .i64 0, .int .u64 0, .int .u64 0]) 3 underB HI.out.1 HI.out.2.1 HI.out.2.2.1 .i64 .i64 N (by rw [HI.out.2.2.2]; omega) (by unfold maxLen; omega) (Nat.le_refl _)
 have hb2 : Below w1.heap.size w1 w2 := ⟨hgr.os, hgr.tape, hgr.output, hgr.size, fun k hk => hgr.block k hk (fun e => by cases e)⟩
 have HW2 : Hid _ := hW.below hb2
 have HO2 : Hid (Bv' w2 w1.heap.size (.slice (some ⟨w1.heap.size, 0, none⟩) 0 N) []) := hown
 have hB2 : Below w.heap.size w w2 := hB.trans (hb2.mono hB.size)
 have hs1 := hB.size
 have hs2 := hb2.size
 obtain ⟨hwb1, hmg1, hmk1⟩ := hW.lt
 clear hW hown hgr hb2 hB
 go_wp2_with fail
 clear hmks
 go_loopw [9, 22] (fun u i wr => ∃ (k : Nat) (M' : List (Int × Bt)) (b : List Bt), k ≤ N ∧ i = .int .i64 (k : Int) ∧ Hid (I k M' ∧ b.length = k ∧ (vs, er) = (b ++ (aLoop VF (ids.drop k) M').1, (aLoop VF (ids.drop k) M').2) ∧ Wk wr wb g w.heap.size mk (fvF ns l) M' ∧ Bv' wr w1.heap.size u b ∧ Below w.heap.size w wr ∧ w1.heap.size ≤ wr.heap.size)) (fun u i wr => N - (intOf i).toNat)
 case atStart => exact ⟨0, [], [], Nat.zero_le _, rfl, HI0.out, rfl, by rw [List.drop_zero, HV.out]; rfl, HW2.out, HO2.out, hB2, hs2⟩
 case round =>
  clear HW2 HO2 hB2
  obtain ⟨k, M', b, hk, rfl, hH⟩ := hrel
  by_cases hlt : k < N
  ·obtain ⟨p, hp⟩ : ∃ p, ids[k]? = some p := ⟨_, List.getElem?_eq_getElem (by rw [← HN.out]; exact hlt)⟩
   have hbl := hH.out.2.2.2.2.2.1
   have hcell : wr.cell? ⟨gi, oi + k, none⟩ = some (.int .i64 p) := by
    have h1 := HLI.out k (by rw [← HN.out]; exact hlt)
    rw [List.getD_eq_getElem?_getD, hp] at h1
    exact bel_cell hbl hgi h1
   have hltI : (k : Int) < (N : Int) := by omega
   have HP : Hid _ := hp
   have HD : Hid (ids.drop k = p :: ids.drop (k + 1)) := by
    unfold Hid
    rw [List.drop_eq_getElem_cons (by rw [← HN.out]; exact hlt)]
    rw [show ids[k]'(by rw [← HN.out]; exact hlt) = p from by rw [List.getElem?_eq_getElem (by rw [← HN.out]; exact hlt)] at hp; exact Option.some.inj hp]
   have HBL : Hid _ := hbl
   clear hp hbl
   obtain ⟨u, hu⟩ : ∃ u, u = (VF M' p).2.1 := ⟨_, rfl⟩
   obtain ⟨e0, he0⟩ : ∃ e0, e0 = (VF M' p).2.2 := ⟨_, rfl⟩
   have HVQ : Hid (Calls Tryz.prog 27 #[.pointer (some ⟨wb, 0, none⟩), .int .i64 p] wr fun e w' => e = .returned (.tuple #[.agg #[.int .i64 u.w, .int .u64 u.lo, .int .u64 u.hi], .int .i64 e0]) ∧ Wk w' wb g w.heap.size mk (fvF ns l) (VF M' p).1 ∧ wr.grownBy w' (some mk)) := by
    rw [hu, he0]
    exact HVL.out k p M' wr wb _ mk HP.out hH.out.1 HBL.out.block (gb_below HBL.out) hmk hH.out.2.2.2.1
   have HD2 : Hid (if e0 = 0 then (vs, er) = (b ++ [u] ++ (aLoop VF (ids.drop (k + 1)) (VF M' p).1).1, (aLoop VF (ids.drop (k + 1)) (VF M' p).1).2) ∧ I (k + 1) (VF M' p).1 else er = e0) := by
    have h1 := hH.out.2.2.1
    rw [HD.out] at h1
    simp only [aLoop, ← he0, ← hu] at h1
    show ite _ _ _
    split
    ·rename_i h
     rw [if_pos h] at h1
     exact ⟨by rw [h1]; simp, HIS.out k p M' HP.out hH.out.1 (by rw [← he0]; exact h)⟩
    ·rename_i h
     rw [if_neg h] at h1
     exact (Prod.mk.inj h1).2
   clear hu he0
   go_wp2_with fail
   refine Calls.mono HVQ.out ?_
   rintro e w5 ⟨rfl, hW5, hg5⟩
   have HW5 : Hid _ := hW5
   have hb5 : Below w.heap.size w w5 := HBL.out.trans ⟨hg5.os, hg5.tape, hg5.output, hg5.size, fun q hq => hg5.block q (Nat.lt_of_lt_of_le hq HBL.out.size) (fun e => by cases e; omega)⟩
   have HO5 : Hid (Bv' w5 w1.heap.size u9 b) := by
    refine ⟨hH.out.2.2.2.2.1.1, ?_⟩
    rcases hH.out.2.2.2.2.1.2 with hn | ⟨r, cap, cur, hr1, hr2, hr3, rest⟩
    ·exact .inl hn
    ·exact .inr ⟨r, cap, cur, hr1, hr2, (hg5.block r (Array.getElem?_eq_some_iff.1 hr3).1 (fun e => by cases e; omega)).trans hr3, rest⟩
   have hs5 : w1.heap.size ≤ w5.heap.size := Nat.le_trans hH.out.2.2.2.2.2.2 hg5.size
   have hbl5 : b.length = k := hH.out.2.1
   clear hW5 hg5 HVQ
   by_cases he : e0 = 0
   ·subst he
    have HM1 : Hid ((vs, er) = (b ++ [u] ++ (aLoop VF (ids.drop (k + 1)) (VF M' p).1).1, (aLoop VF (ids.drop (k + 1)) (VF M' p).1).2) ∧ I (k + 1) (VF M' p).1) := by have h := HD2.out; rw [if_pos rfl] at h; exact h
    clear HD2
    go_wp2_with (at_builtin; refine wpList_append_own_at _ rfl _ _ 40 rfl w1.heap.size 34 t0 (.agg #[.int .i64 0, .int .u64 0, .int .u64 0]) 3 24 underB HI.out.1 HI.out.2.1 HI.out.2.2.1 HI.out.2.2.2 rfl (by decide) _ _ _ rfl (row_kept (row_kept HO5.out (fun _ hq => heap_alloc_old _ _ hq)) (fun _ hq => heap_alloc_old _ _ hq)) ⟨w5.heap.size + 1, 0, none⟩ 1 1 [.int .i64 u.w, .int .u64 u.lo, .int .u64 u.hi] rfl rfl (cells_new3 (by rw [size_alloc'])) (one_bt u) (by rw [hbl5]; unfold maxLen; omega) (by rw [hbl5]; omega) (by rw [size_alloc', size_alloc']; omega) ?_; intro v6 w6 hown hgrow hnil hat)
    have hb6 : Below w.heap.size w w6 := low_grown (hb5.alloc hb5.size _) (by rw [size_alloc']; have := hb5.size; omega) hgrow (fun q hq => by have := (HO5.out.lt q hq).1; omega)
    have HO6 : Hid (Bv' w6 w1.heap.size v6 (b ++ [u])) := by
     unfold Hid Bv'
     rw [List.flatMap_append, List.length_append]
     exact hown
    have HW6 : Hid _ := (HW5.out.below (((Below.refl w5.heap.size w5).alloc (Nat.le_refl _) (.cells #[.int .i64 u.w, .int .u64 u.lo, .int .u64 u.hi] 34)).alloc (by rw [size_alloc']; omega) (.cells #[.int .i64 u.w, .int .u64 u.lo, .int .u64 u.hi] 34))).far (n := w1.heap.size) hgrow (fun q hq => (HO5.out.lt q hq).1) hwb1 hmg1 hmk1
    have hs6 : w1.heap.size ≤ w6.heap.size := by have := hgrow.size; rw [size_alloc', size_alloc'] at this; omega
    clear hown hgrow hnil hat HO5 HW5
    go_wp2_with fail
    exact ⟨⟨k + 1, _, b ++ [u], by omega, by go_num, HM1.out.2, by rw [List.length_append, hbl5]; rfl, HM1.out.1, HW6.out, HO6.out, hb6, hs6⟩, by simp [intOf]; omega⟩
   ·have z1 : (e0 == 0) = false := by simpa using he
    have z2 : (e0 != 0) = true := by simpa using he
    have HM1 : Hid (er = e0) := by have h := HD2.out; rw [if_neg he] at h; exact h
    clear HD2
    go_wp2_with fail
    refine bodyPost_ret (v := .tuple #[.slice none 0 0, .int .i64 e0]) (by simp [results, Tryz.results11, go_sem]) rfl ?_
    rw [HM1.out]
    exact ⟨_, rfl, by unfold AllR; rw [if_neg he], by go_grown⟩
  ·obtain rfl : k = N := by omega
   have hltI : ¬ (k : Int) < (k : Int) := by omega
   have HF : Hid (vs = b ∧ er = 0) := by
    have h1 := hH.out.2.2.1
    rw [List.drop_eq_nil_of_le (by rw [← HN.out]; exact Nat.le_refl _)] at h1
    simp only [aLoop, List.append_nil] at h1
    exact Prod.mk.inj h1
   go_wp2_with fail
   refine bodyPost_ret (v := .tuple #[u9, .int .i64 0]) (by simp [results, Tryz.results11, go_sem]) rfl ?_
   rw [HF.out.1, HF.out.2]
   refine ⟨_, rfl, ?_, hH.out.2.2.2.2.2.1⟩
   unfold AllR
   rw [if_pos rfl]
   exact row_low hH.out.2.2.2.2.1 hs1
end Go.Proofs.YtejljdbkocnhlaaGreat
