import Derived.Test.YtedldoobmmhloaaEA13
import Derived.Test.YtedldoobmmhloaaY19
namespace Go.Proofs.Ytedldoobmmhloaa
set_option maxHeartbeats 12800000
set_option maxRecDepth 100000
open Go.RowKit
set_option linter.unusedSimpArgs false
set_option linter.unusedVariables false
theorem gb_below {w x : World} {r : Option Nat} (h : Below w.heap.size w x) : w.grownBy x r := ⟨h.os, h.tape, h.output, h.size, fun k hk _ => h.block k hk⟩
theorem gb_on {w x y : World} {r : Option Nat} (h : w.grownBy x r) (hb : Below x.heap.size x y) : w.grownBy y r :=
 ⟨hb.os.trans h.os, hb.tape.trans h.tape, hb.output.trans h.output, Nat.le_trans h.size hb.size, fun k hk hn => (hb.block k (Nat.lt_of_lt_of_le hk h.size)).trans (h.block k hk hn)⟩
theorem gb_trans {w x y : World} {r : Option Nat} (h : w.grownBy x r) (hb : x.grownBy y r) : w.grownBy y r :=
 ⟨hb.os.trans h.os, hb.tape.trans h.tape, hb.output.trans h.output, Nat.le_trans h.size hb.size, fun k hk hn => (hb.block k (Nat.lt_of_lt_of_le hk h.size) hn).trans (h.block k hk hn)⟩
theorem gb_set {w x : World} {r : Option Nat} {b j : Nat} {v : Value} (h : w.grownBy x r) (hb : w.heap.size ≤ b) : w.grownBy (x.setCell ⟨b, j, none⟩ v) r :=
 ⟨h.os, h.tape, h.output, by rw [World.size_setCell]; exact h.size, fun k hk hn => (heap_setCell_other _ _ _ _ (by show k ≠ b; omega)).trans (h.block k hk hn)⟩
theorem Wk.put {w w' : World} {wb g mg mk : Nat} {G M M' : List (Int × Bt)} (h : Wk w wb g mg mk G M) (hg : w.grownBy w' (some mk)) (hb : Bm w' mk M') : Wk w' wb g mg mk G M' :=
 ⟨(hg.block _ (Array.getElem?_eq_some_iff.1 h.hd).1 (fun e => h.ne.2.2 (by cases e; rfl))).trans h.hd, h.gv.kept (hg.block _ h.gv.mp.lt (fun e => h.ne.1 (by cases e; rfl))), hb, h.ne⟩
theorem Wk.lt {w : World} {wb g mg mk : Nat} {G M : List (Int × Bt)} (h : Wk w wb g mg mk G M) : wb < w.heap.size ∧ mg < w.heap.size ∧ mk < w.heap.size := ⟨(Array.getElem?_eq_some_iff.1 h.hd).1, h.gv.mp.lt, h.kn.mp.lt⟩
theorem Wk.set {w : World} {wb g mg mk b j : Nat} {G M : List (Int × Bt)} {v : Value} (h : Wk w wb g mg mk G M) (h1 : wb ≠ b) (h2 : mg ≠ b) (h3 : mk ≠ b) : Wk (w.setCell ⟨b, j, none⟩ v) wb g mg mk G M :=
 ⟨(heap_setCell_other _ _ _ _ h1).trans h.hd, h.gv.kept (heap_setCell_other _ _ _ _ h2), h.kn.kept (heap_setCell_other _ _ _ _ h3), h.ne⟩
theorem val_fin {w x : World} {wb g mg mk : Nat} {G M : List (Int × Bt)} (hW : Wk x wb g mg mk G M) (hg : w.grownBy x (some mk)) (h1 : wb < w.heap.size) (h2 : mg < w.heap.size) (h3 : mk < w.heap.size) (a b c : Value) :
  Wk (((x.setCell ⟨w.heap.size, 0, none⟩ a).setCell ⟨w.heap.size, 1, none⟩ b).setCell ⟨w.heap.size, 2, none⟩ c) wb g mg mk G M ∧ w.grownBy (((x.setCell ⟨w.heap.size, 0, none⟩ a).setCell ⟨w.heap.size, 1, none⟩ b).setCell ⟨w.heap.size, 2, none⟩ c) (some mk) :=
 ⟨((hW.set (by omega) (by omega) (by omega)).set (by omega) (by omega) (by omega)).set (by omega) (by omega) (by omega), gb_set (gb_set (gb_set hg (Nat.le_refl _)) (Nat.le_refl _)) (Nat.le_refl _)⟩
structure MS (w0 w6 : World) (g : Nat → Nat) (L : Nat → Bool) (x : World) : Prop where
 no : L 6 = false → x = w0
 yes : L 6 = true → x = w6 ∧ L 3 = true ∧ L 5 = true
theorem updB_mono {L : Nat → Bool} {i k : Nat} (h : L k = true) : updB L i k = true := by
 unfold updB; split
 ·rfl
 ·exact h
theorem MS.pre {w0 w6 x : World} {g : Nat → Nat} {L : Nat → Bool} {i : Nat} (h : MS w0 w6 g L x) (hi : i = 3 ∨ i = 5) (hL : L i = false) : L 6 = false := by
 cases e : L 6
 ·rfl
 ·rcases hi with rfl | rfl
  ·rw [(h.yes e).2.1] at hL; cases hL
  ·rw [(h.yes e).2.2] at hL; cases hL
theorem MS.go {w0 w6 x : World} {g : Nat → Nat} {L : Nat → Bool} {i : Nat} (h : MS w0 w6 g L x) (hi : i ≠ 6) : MS w0 w6 g (updB L i) x := by
 have u := updB_ne (L := L) (i := i) (k := 6) (Ne.symm hi)
 exact ⟨fun e => h.no (by rw [u] at e; exact e), fun e => by
  rw [u] at e
  obtain ⟨h1, h2, h3⟩ := h.yes e
  exact ⟨h1, updB_mono h2, updB_mono h3⟩⟩
def vLoop (PV : List (Int × Bt) → Int → Bt × Int) : List Int → List (Int × Bt) → List (Int × Bt) × Int
 | [], M => (M, 0)
 | p :: ps, M => if (getM M p).isSome then vLoop PV ps M else if (PV M p).2 = 0 then vLoop PV ps (M ++ [(p, (PV M p).1)]) else (M, (PV M p).2)
theorem val_known {w : World} {g wb mg mk : Nat} {G M : List (Int × Bt)} {id : Int} {y : Bt} (hw : Wk w wb g mg mk G M) (hid : w64 id) (hy : getM M id = some y) :
  Calls Try.prog 31 #[.pointer (some ⟨wb, 0, none⟩), .int .i64 id] w fun e w' => e = .returned (.tuple #[.agg #[.int .i64 y.w, .int .u64 y.lo, .int .u64 y.hi], .int .i64 0]) ∧ Below w.heap.size w w' := by
 have c2 : w.cell? ⟨wb, 2, none⟩ = some (.map (some mk)) := cell_of hw.hd 2 rfl
 obtain ⟨hwb, hmg, hmk⟩ := hw.lt
 have hlk : (Instr.lookup 63 (.map (some mk)) (.int .i64 id) true).run Try.prog (w.alloc (.cells #[.int .i64 0, .int .u64 0, .int .u64 0] 25)) = .ok (.tuple #[.agg #[.int .i64 y.w, .int .u64 y.lo, .int .u64 y.hi], .bool true]) (w.alloc (.cells #[.int .i64 0, .int .u64 0, .int .u64 0] 25)) := by
  have h1 := (hw.kn.kept (heap_alloc_old w (.cells #[.int .i64 0, .int .u64 0, .int .u64 0] 25) hmk)).look hid
  rw [hy] at h1
  exact h1
 clear hw hy hid hmg hmk
 go_enter Try.func31, Try.ntmps31
 go_wp2_with fail
 refine bodyPost_ret (v := .tuple #[.agg #[.int .i64 y.w, .int .u64 y.lo, .int .u64 y.hi], .int .i64 0]) (by simp [results, Try.results31, go_sem]) rfl ?_
 exact ⟨rfl, by go_grown⟩
theorem val_none {w : World} {B g mi mv mo wb mg mk : Nat} {v : Value} {ns : List Nd} {G M : List (Int × Bt)} {id : Int} (h : Gr w B g mi mv v mo ns) (hw : Wk w wb g mg mk G M) (hid : w64 id) (hy : getM M id = none) (hL : coneL ns id = []) :
  Calls Try.prog 31 #[.pointer (some ⟨wb, 0, none⟩), .int .i64 id] w fun e w' => e = .returned (.tuple #[.agg #[.int .i64 0, .int .u64 0, .int .u64 0], .int .i64 40]) ∧ Below w.heap.size w w' := by
 have c0 : w.cell? ⟨wb, 0, none⟩ = some (.pointer (some ⟨g, 0, none⟩)) := cell_of hw.hd 0 rfl
 have c2 : w.cell? ⟨wb, 2, none⟩ = some (.map (some mk)) := cell_of hw.hd 2 rfl
 obtain ⟨hwb, hmg, hmk⟩ := hw.lt
 have hlk : (Instr.lookup 63 (.map (some mk)) (.int .i64 id) true).run Try.prog (w.alloc (.cells #[.int .i64 0, .int .u64 0, .int .u64 0] 25)) = .ok (.tuple #[.agg #[.int .i64 0, .int .u64 0, .int .u64 0], .bool false]) (w.alloc (.cells #[.int .i64 0, .int .u64 0, .int .u64 0] 25)) := by
  have h1 := (hw.kn.kept (heap_alloc_old w (.cells #[.int .i64 0, .int .u64 0, .int .u64 0] 25) hmk)).look hid
  rw [hy] at h1
  exact h1
 have HC : Hid (∀ wx, Below w.heap.size w wx → Calls Try.prog 41 #[.pointer (some ⟨g, 0, none⟩), .int .i64 id] wx fun e w' => ∃ u, e = .returned u ∧ Rl w' wx.heap.size u [] ∧ Below wx.heap.size wx w') := fun wx hb => by
  have h1 := cone_any (h.below hb) id
  rw [hL] at h1
  exact h1
 clear h hw hy hid hmg hmk hL
 go_enter Try.func31, Try.ntmps31
 go_wp2_with fail
 refine Calls.mono (HC.out _ (by go_grown)) ?_
 rintro e w1 ⟨u, rfl, ⟨a, c, rfl, -, -, -⟩, hb⟩
 have hB : Below w.heap.size w w1 := Below.trans (by go_grown) (hb.mono (by simp; omega))
 have hr : w1.heap[w.heap.size]? = some (.cells #[.int .i64 0, .int .u64 0, .int .u64 0] 25) := (hb.block _ (by simp; omega)).trans ((heap_alloc_old _ _ (by simp)).trans (heap_alloc_new w _))
 have r0 : w1.cell? ⟨w.heap.size, 0, none⟩ = some (.int .i64 0) := cell_of hr 0 rfl
 have r1 : w1.cell? ⟨w.heap.size, 1, none⟩ = some (.int .u64 0) := cell_of hr 1 rfl
 have r2 : w1.cell? ⟨w.heap.size, 2, none⟩ = some (.int .u64 0) := cell_of hr 2 rfl
 have rf : ∀ j, w1.frozen? ⟨w.heap.size, j, none⟩ = false := fun j => by simp [World.frozen?, hr]
 clear hb hr
 go_wp2_with fail
 refine bodyPost_ret (v := .tuple #[.agg #[.int .i64 0, .int .u64 0, .int .u64 0], .int .i64 40]) (by simp [results, Try.results31, go_sem, r0, r1, r2]) rfl ?_
 exact ⟨rfl, by go_grown⟩
theorem val_loop {w : World} {B g mi mv mo wb mg mk : Nat} {v : Value} {ns : List Nd} {G M M1 : List (Int × Bt)} {id er : Int} {R : Bt} {L : List Int} {PV : List (Int × Bt) → Int → Bt × Int} {I : Nat → List (Int × Bt) → Prop}
  (HG : Hid (∀ wx, w.grownBy wx (some mk) → Gr wx B g mi mv v mo ns)) (hw : Wk w wb g mg mk G M) (hid : w64 id) (hy : getM M id = none) (hL : coneL ns id = L) (hne : L ≠ []) (hr : ∀ p ∈ L, 1 ≤ p ∧ p ≤ 4096)
  (HPV : Hid (∀ k p M' wx, L[k]? = some p → I k M' → w.grownBy wx (some mk) → Wk wx wb g mg mk G M' → Calls Try.prog 42 #[.pointer (some ⟨wb, 0, none⟩), .int .i64 p] wx fun e w' => e = .returned (.tuple #[.agg #[.int .i64 (PV M' p).1.w, .int .u64 (PV M' p).1.lo, .int .u64 (PV M' p).1.hi], .int .i64 (PV M' p).2]) ∧ Below wx.heap.size wx w'))
  (HI0 : Hid (I 0 M)) (HIS : Hid (∀ k p M', L[k]? = some p → I k M' → ((getM M' p).isSome = true → I (k + 1) M') ∧ (getM M' p = none → (PV M' p).2 = 0 → I (k + 1) (M' ++ [(p, (PV M' p).1)]))))
  (hv : vLoop PV L M = (M1, er)) (hR : R = if er = 0 then (getM M1 id).getD zBt else zBt) :
  Calls Try.prog 31 #[.pointer (some ⟨wb, 0, none⟩), .int .i64 id] w fun e w' => e = .returned (.tuple #[.agg #[.int .i64 R.w, .int .u64 R.lo, .int .u64 R.hi], .int .i64 er]) ∧ Wk w' wb g mg mk G M1 ∧ w.grownBy w' (some mk) := by
 have c0 : w.cell? ⟨wb, 0, none⟩ = some (.pointer (some ⟨g, 0, none⟩)) := cell_of hw.hd 0 rfl
 have c2 : w.cell? ⟨wb, 2, none⟩ = some (.map (some mk)) := cell_of hw.hd 2 rfl
 obtain ⟨hwb, hmg, hmk⟩ := hw.lt
 have hlk : (Instr.lookup 63 (.map (some mk)) (.int .i64 id) true).run Try.prog (w.alloc (.cells #[.int .i64 0, .int .u64 0, .int .u64 0] 25)) = .ok (.tuple #[.agg #[.int .i64 0, .int .u64 0, .int .u64 0], .bool false]) (w.alloc (.cells #[.int .i64 0, .int .u64 0, .int .u64 0] 25)) := by
  have h1 := (hw.kn.kept (heap_alloc_old w (.cells #[.int .i64 0, .int .u64 0, .int .u64 0] 25) hmk)).look hid
  rw [hy] at h1
  exact h1
 have HC : Hid (∀ wx, Below w.heap.size w wx → Calls Try.prog 41 #[.pointer (some ⟨g, 0, none⟩), .int .i64 id] wx fun e w' => ∃ u, e = .returned u ∧ Rl w' wx.heap.size u L ∧ Below wx.heap.size wx w') := fun wx hb => by
  have h1 := cone_any (HG.out wx (gb_below hb)) id
  rw [hL] at h1
  exact h1
 have HW : Hid _ := hw
 have HV : Hid _ := hv
 have HR : Hid _ := hR
 have HRG : Hid _ := hr
 have HID : Hid _ := hid
 have HNE : Hid _ := hne
 obtain ⟨n, hn⟩ : ∃ n, n = L.length := ⟨_, rfl⟩
 have HN : Hid _ := hn
 have hn0 : ((n : Int) == 0) = false := by
  have : n ≠ 0 := by rw [hn]; exact fun e => hne (List.length_eq_zero_iff.1 e)
  simp; omega
 clear hw hv hR hr hid hy hL hne hn
 go_enter Try.func31, Try.ntmps31
 go_wp2_with fail
 refine Calls.mono (HC.out _ (by go_grown)) ?_
 rintro e w1 ⟨u, rfl, ⟨a, c, rfl, hc, hl5, hli⟩, hb⟩
 rw [← HN.out] at hc hl5 ⊢
 obtain ⟨r, rfl, hrw, hLi⟩ := hli.resolve_left HNE.out
 have hB : Below w.heap.size w w1 := Below.trans (by go_grown) (hb.mono (by simp; omega))
 have hs1 : w.heap.size + 2 ≤ w1.heap.size := by have := hb.size; simp at this; omega
 have hrw' : w.heap.size + 2 ≤ r := by simpa using hrw
 have hz : w1.heap[w.heap.size]? = some (.cells #[.int .i64 0, .int .u64 0, .int .u64 0] 25) := (hb.block _ (by simp; omega)).trans ((heap_alloc_old _ _ (by simp)).trans (heap_alloc_new w _))
 have HLI : Hid _ := hLi
 have HZ : Hid _ := hz
 have HB : Hid _ := hB
 clear hb hrw hLi hz hB hlk c0 c2
 go_wp2_with fail
 go_loopw [38] (fun i wr => ∃ (k : Nat) (M' : List (Int × Bt)), k ≤ n ∧ i = .int .i64 (k : Int) ∧ Hid (I k M' ∧ vLoop PV (L.drop k) M' = (M1, er) ∧ Wk wr wb g mg mk G M' ∧ w1.grownBy wr (some mk))) (fun i wr => n - (intOf i).toNat)
 case atStart => exact ⟨0, M, Nat.zero_le _, rfl, HI0.out, by rw [List.drop_zero]; exact HV.out, HW.out.below HB.out, gb_below (Below.refl _ _)⟩
 case round =>
  obtain ⟨k, M', hk, rfl, hH⟩ := hrel
  have hgw : Hid (w.grownBy wr (some mk)) := gb_trans (gb_below HB.out) hH.out.2.2.2
  have c2 : wr.cell? ⟨wb, 2, none⟩ = some (.map (some mk)) := cell_of hH.out.2.2.1.hd 2 rfl
  have hsr : w1.heap.size ≤ wr.heap.size := hH.out.2.2.2.size
  have hwr : wb < wr.heap.size := by omega
  have hzr : wr.heap[w.heap.size]? = some (.cells #[.int .i64 0, .int .u64 0, .int .u64 0] 25) := (hH.out.2.2.2.block _ (by omega) (fun e => by cases e; omega)).trans HZ.out
  have HZR : Hid _ := hzr
  have hzl : w.heap.size < wr.heap.size := by omega
  clear hzr
  by_cases hlt : k < n
  ·obtain ⟨p, hp⟩ : ∃ p, L[k]? = some p := ⟨_, List.getElem?_eq_getElem (by rw [← HN.out]; exact hlt)⟩
   have hcell : wr.cell? ⟨r, k, none⟩ = some (.int .i64 p) := by
    have h1 := HLI.out k (by rw [← HN.out]; exact hlt)
    rw [Nat.zero_add, List.getD_eq_getElem?_getD, hp] at h1
    rw [World.cell?_of_block (hH.out.2.2.2.block r (World.block_lt_of_cell? _ ⟨r, k, none⟩ h1) (fun e => by cases e; omega))]
    exact h1
   have hltI : (k : Int) < (n : Int) := by omega
   have hp64 : w64 p := by have := HRG.out p (List.mem_of_getElem? hp); unfold w64; omega
   have HP : Hid _ := hp
   have HP64 : Hid _ := hp64
   have HD : Hid (vLoop PV (p :: L.drop (k + 1)) M' = (M1, er)) := by
    have h1 := hH.out.2.1
    rw [List.drop_eq_getElem_cons (by rw [← HN.out]; exact hlt)] at h1
    rw [show L[k]'(by rw [← HN.out]; exact hlt) = p from by rw [List.getElem?_eq_getElem (by rw [← HN.out]; exact hlt)] at hp; exact Option.some.inj hp] at h1
    exact h1
   clear hp hp64
   obtain ⟨y, hy⟩ : ∃ y, y = (getM M' p).getD zBt := ⟨_, rfl⟩
   obtain ⟨f, hf⟩ : ∃ f, f = (getM M' p).isSome := ⟨_, rfl⟩
   have hlk : (Instr.lookup 63 (.map (some mk)) (.int .i64 p) true).run Try.prog wr = .ok (.tuple #[.agg #[.int .i64 y.w, .int .u64 y.lo, .int .u64 y.hi], .bool f]) wr := by
    rw [hy, hf]
    exact hH.out.2.2.1.kn.look HP64.out
   have HF : Hid _ := hf
   clear hy hf
   cases f
   ·have hno : getM M' p = none := by simpa using HF.out.symm
    have HNO : Hid _ := hno
    obtain ⟨u, hu⟩ : ∃ u, u = (PV M' p).1 := ⟨_, rfl⟩
    obtain ⟨e0, he0⟩ : ∃ e0, e0 = (PV M' p).2 := ⟨_, rfl⟩
    have HPQ : Hid (∀ wx, wr.grownBy wx none → Calls Try.prog 42 #[.pointer (some ⟨wb, 0, none⟩), .int .i64 p] wx fun e w' => e = .returned (.tuple #[.agg #[.int .i64 u.w, .int .u64 u.lo, .int .u64 u.hi], .int .i64 e0]) ∧ Below wx.heap.size wx w') := fun wx hx => by
     rw [hu, he0]
     have hx' : Below wr.heap.size wr wx := ⟨hx.os, hx.tape, hx.output, hx.size, fun k hk => hx.block k hk (fun e => by cases e)⟩
     exact HPV.out k p M' wx HP.out hH.out.1 (gb_on hgw.out hx') (hH.out.2.2.1.below hx')
    have HD2 : Hid (if e0 = 0 then vLoop PV (L.drop (k + 1)) (M' ++ [(p, u)]) = (M1, er) else M1 = M' ∧ er = e0) := by
     have h1 := HD.out
     simp only [vLoop, hno, Option.isSome_none, Bool.false_eq_true, if_false, ← he0, ← hu] at h1
     show ite _ _ _
     split
     ·rename_i h; rw [if_pos h] at h1; exact h1
     ·rename_i h; rw [if_neg h] at h1; cases h1; exact ⟨rfl, rfl⟩
    have HIX : Hid (e0 = 0 → I (k + 1) (M' ++ [(p, u)])) := fun h => by
     rw [hu]; exact (HIS.out k p M' HP.out hH.out.1).2 hno (by rw [← he0]; exact h)
    clear hno hu he0 HF
    go_wp2_with fail
    refine Calls.mono (HPQ.out _ (gb_below (by go_grown))) ?_
    rintro e w2 ⟨rfl, hb2⟩
    have hB2 : Below wr.heap.size wr w2 := Below.trans (by go_grown) (hb2.mono (by simp))
    have hs2 := hB2.size
    have hzr : w2.heap[w.heap.size]? = some (.cells #[.int .i64 0, .int .u64 0, .int .u64 0] 25) := (hB2.block _ hzl).trans HZR.out
    have HW2 : Hid _ := hH.out.2.2.1.below hB2
    have HG2 : Hid _ := gb_on hH.out.2.2.2 hB2
    have c22 : w2.cell? ⟨wb, 2, none⟩ = some (.map (some mk)) := bel_cell hB2 hwr c2
    have hwr2 : wb < w2.heap.size := by omega
    have hmk2 : mk < w2.heap.size := by omega
    clear hb2 hB2 c2
    by_cases he : e0 = 0
    ·subst he
     have HM1 : Hid (vLoop PV (L.drop (k + 1)) (M' ++ [(p, u)]) = (M1, er)) := by have h := HD2.out; rw [if_pos rfl] at h; exact h
     have hix : Hid _ := HIX.out rfl
     clear HD2 HIX hzr
     go_wp2_with fail
     refine wp_world fun wS hwS => ?_
     have hBS : Below w2.heap.size w2 wS := by rw [← hwS]; exact (Below.refl _ _).alloc (Nat.le_refl _) _
     have hsS : wS.heap.size = w2.heap.size + 1 := by rw [← hwS, size_alloc']
     have hvS : wS.heap[w2.heap.size]? = some (.cells #[.int .i64 u.w, .int .u64 u.lo, .int .u64 u.hi] 25) := by rw [← hwS]; exact heap_alloc_new w2 _
     have s0 : wS.drew.cell? ⟨w2.heap.size, 0, none⟩ = some (.int .i64 u.w) := cell_of (w := wS.drew) hvS 0 rfl
     have s1 : wS.drew.cell? ⟨w2.heap.size, 1, none⟩ = some (.int .u64 u.lo) := cell_of (w := wS.drew) hvS 1 rfl
     have s2 : wS.drew.cell? ⟨w2.heap.size, 2, none⟩ = some (.int .u64 u.hi) := cell_of (w := wS.drew) hvS 2 rfl
     have q2 : wS.drew.cell? ⟨wb, 2, none⟩ = some (.map (some mk)) := bel_cell hBS.drew hwr2 c22
     have hl1 : w2.heap.size < wS.drew.heap.size := by show w2.heap.size < wS.heap.size; omega
     have hl2 : wb < wS.drew.heap.size := by show wb < wS.heap.size; omega
     obtain ⟨w6, hmu, hM6, hg6, hs6⟩ := Bm.put (w := wS.drew) ((HW2.out.kn.kept (hBS.drew.block _ hmk2))) HP64.out u HNO.out
     have hmu2 : (Instr.mapUpdate 63 (.map (some mk)) (.int .i64 p) (.agg #[.int .i64 u.w, .int .u64 u.lo, .int .u64 u.hi])).run Try.prog wS.drew = .ok () w6 := hmu
     have HW6 : Hid _ := (HW2.out.below hBS.drew).put hg6 hM6
     have HG6 : Hid _ := gb_trans (gb_on HG2.out hBS.drew) hg6
     clear hmu hM6 hg6 hs6 hwS hvS hBS c22
     refine wp_named fun a0 ha0 => ?_
     have o0 := old_at ha0 (t := 0) rfl
     have o10 := old_at ha0 (t := 10) rfl
     have o13 := old_at ha0 (t := 13) rfl
     refine wp_region_lin (S := MS wS.drew w6) [] (fun _ => 0) (by kernel_rfl) (by kernel_rfl) (by rw [← ha0]; kernel_rfl) ⟨fun _ => rfl, fun e => by cases e⟩ ?_
     refine' LinAll.cons _ ?_ ?_ ?_
     rotate_left 1
     ·intro g L a x hLi haft hS hK
      have t0 := (hK.old 0 (by kernel_rfl)).trans o0
      try dsimp only at t0
      refine go_in (wanted_all rfl) ?_
      intro K hk
      clear haft hK hLi
      go_simp
      exact hk.out g _ (fun _ _ => rfl) (hS.go (by decide))
     ·intro i hi
      cases hi
     refine' LinAll.cons _ ?_ ?_ ?_
     rotate_left 1
     ·intro g L a x hLi haft hS hK
      have t62 := hK.nw haft 0 0 62 rfl (by kernel_rfl)
      try dsimp only at t62
      refine go_in (wanted_all rfl) ?_
      intro K hk
      clear haft hK hLi
      go_simp
      exact hk.out g _ (fun _ _ => rfl) (hS.go (by decide))
     ·intro i hi
      cases hi
     refine' LinAll.cons _ ?_ ?_ ?_
     rotate_left 1
     ·intro g L a x hLi haft hS hK
      have t63 := hK.nw haft 1 0 63 rfl (by kernel_rfl)
      try dsimp only at t63
      refine go_in (wanted_all rfl) ?_
      intro K hk
      clear haft hK hLi
      go_simp
      exact hk.out g _ (fun _ _ => rfl) (hS.go (by decide))
     ·intro i hi
      cases hi
     refine' LinAll.cons _ ?_ ?_ ?_
     rotate_left 1
     ·intro g L a x hLi haft hS hK
      have t64 := hK.nw haft 2 0 64 rfl (by kernel_rfl)
      try dsimp only at t64
      refine go_in (wanted_all rfl) ?_
      intro K hk
      obtain rfl := hS.no (hS.pre (by decide) hLi)
      clear haft hK hLi
      go_simp
      exact hk.out g _ (fun _ _ => rfl) (hS.go (by decide))
     ·intro i hi
      cases hi
     refine' LinAll.cons _ ?_ ?_ ?_
     rotate_left 1
     ·intro g L a x hLi haft hS hK
      have t10 := (hK.old 10 (by kernel_rfl)).trans o10
      try dsimp only at t10
      refine go_in (wanted_all rfl) ?_
      intro K hk
      clear haft hK hLi
      go_simp
      exact hk.out g _ (fun _ _ => rfl) (hS.go (by decide))
     ·intro i hi
      cases hi
     refine' LinAll.cons _ ?_ ?_ ?_
     rotate_left 1
     ·intro g L a x hLi haft hS hK
      have t13 := (hK.old 13 (by kernel_rfl)).trans o13
      try dsimp only at t13
      refine go_in (wanted_all rfl) ?_
      intro K hk
      obtain rfl := hS.no (hS.pre (by decide) hLi)
      clear haft hK hLi
      go_simp
      exact hk.out g _ (fun _ _ => rfl) (hS.go (by decide))
     ·intro i hi
      cases hi
     refine LinAll.cons (fun _ => undef) ?_ ?_ ?_
     ·intro g L a x hLi haft hS hK
      have t65 := hK.nw haft 3 2 65 rfl (by kernel_rfl)
      have t66 := hK.nw haft 4 1 66 rfl (by kernel_rfl)
      have t67 := hK.nw haft 5 0 67 rfl (by kernel_rfl)
      try dsimp only at t65 t66 t67
      refine go_in (wanted_all rfl) ?_
      intro K hk
      obtain rfl := hS.no hLi
      have l3 := waits haft 3 (by kernel_rfl)
      have l5 := waits haft 5 (by kernel_rfl)
      clear hK haft
      go_simp
      exact hk.out g _ (fun _ _ => rfl) ⟨(fun e => by rw [updB_eq] at e; cases e), fun _ => ⟨rfl, updB_mono l3, updB_mono l5⟩⟩
     ·intro i hi
      cases hi
     refine LinAll.nil fun g x hS => ?_
     obtain rfl := (hS.yes rfl).1
     subst ha0
     simp only [Act.put, List.setIfInBounds_toArray, List.set_cons_zero, List.set_cons_succ]
     clear o0 o10 o13 hS
     go_wp2_with fail
     exact ⟨⟨k + 1, M' ++ [(p, u)], by omega, by go_num, hix.out, HM1.out, HW6.out, HG6.out⟩, by simp [intOf]; omega⟩
    ·have z1 : (e0 == 0) = false := by simpa using he
     have z2 : (e0 != 0) = true := by simpa using he
     have HM1 : Hid (M1 = M' ∧ er = e0) := by have h := HD2.out; rw [if_neg he] at h; exact h
     have r0 : w2.cell? ⟨w.heap.size, 0, none⟩ = some (.int .i64 0) := cell_of hzr 0 rfl
     have r1 : w2.cell? ⟨w.heap.size, 1, none⟩ = some (.int .u64 0) := cell_of hzr 1 rfl
     have r2 : w2.cell? ⟨w.heap.size, 2, none⟩ = some (.int .u64 0) := cell_of hzr 2 rfl
     have rf : ∀ j, w2.frozen? ⟨w.heap.size, j, none⟩ = false := fun j => by simp [World.frozen?, hzr]
     have hz2 : w.heap.size < w2.heap.size := by omega
     clear HD2 HIX hzr
     go_wp2_with fail
     refine bodyPost_ret (v := .tuple #[.agg #[.int .i64 0, .int .u64 0, .int .u64 0], .int .i64 e0]) (by simp [results, Try.results31, go_sem, r0, r1, r2, hz2]) rfl ?_
     have hfin := val_fin HW2.out (gb_trans (gb_below HB.out) HG2.out) hwb hmg hmk (.int .i64 0) (.int .u64 0) (.int .u64 0)
     obtain ⟨q1, q2⟩ := HM1.out
     have hRz : R = zBt := by rw [HR.out, if_neg (by rw [q2]; exact he)]
     rw [hRz, q1, q2]
     exact ⟨rfl, hfin.1.below ((Below.refl _ _).alloc (Nat.le_refl _) _), gb_on hfin.2 ((Below.refl _ _).alloc (Nat.le_refl _) _)⟩
   ·have HX : Hid _ := (HIS.out k p M' HP.out hH.out.1).1 HF.out.symm
    have HDX : Hid (vLoop PV (L.drop (k + 1)) M' = (M1, er)) := by
     have h1 := HD.out
     simp only [vLoop, ← HF.out, if_true] at h1
     exact h1
    go_wp2_with fail
    exact ⟨⟨k + 1, M', by omega, by go_num, HX.out, HDX.out, hH.out.2.2.1.below (by go_grown), gb_on hH.out.2.2.2 (by go_grown)⟩, by simp [intOf]; omega⟩
  ·obtain rfl : k = n := by omega
   have hltI : ¬ (k : Int) < (k : Int) := by omega
   have HD : Hid (M1 = M' ∧ er = 0) := by
    have h1 := hH.out.2.1
    rw [List.drop_eq_nil_of_le (by rw [← HN.out]; exact Nat.le_refl _)] at h1
    simp only [vLoop] at h1
    cases h1; exact ⟨rfl, rfl⟩
   have hRv : R = (getM M' id).getD zBt := by rw [HR.out, HD.out.1, HD.out.2, if_pos rfl]
   have hl1 : (Instr.lookup 63 (.map (some mk)) (.int .i64 id) false).run Try.prog wr = .ok (.agg #[.int .i64 R.w, .int .u64 R.lo, .int .u64 R.hi]) wr := by
    rw [hRv]; exact hH.out.2.2.1.kn.look1 HID.out
   have r0 : wr.cell? ⟨w.heap.size, 0, none⟩ = some (.int .i64 0) := cell_of HZR.out 0 rfl
   have r1 : wr.cell? ⟨w.heap.size, 1, none⟩ = some (.int .u64 0) := cell_of HZR.out 1 rfl
   have r2 : wr.cell? ⟨w.heap.size, 2, none⟩ = some (.int .u64 0) := cell_of HZR.out 2 rfl
   have rf : ∀ j, wr.frozen? ⟨w.heap.size, j, none⟩ = false := fun j => by have h := HZR.out; simp [World.frozen?, h]
   clear hRv
   go_wp2_with fail
   refine bodyPost_ret (v := .tuple #[.agg #[.int .i64 R.w, .int .u64 R.lo, .int .u64 R.hi], .int .i64 0]) (by simp [results, Try.results31, go_sem, r0, r1, r2, hzl]) rfl ?_
   have hfin := val_fin hH.out.2.2.1 hgw.out hwb hmg hmk (.int .i64 R.w) (.int .u64 R.lo) (.int .u64 R.hi)
   rw [HD.out.1, HD.out.2]
   exact ⟨rfl, hfin.1, hfin.2⟩
end Go.Proofs.Ytedldoobmmhloaa
