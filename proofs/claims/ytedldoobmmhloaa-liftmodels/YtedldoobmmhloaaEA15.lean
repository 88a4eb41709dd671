import Derived.Test.YtedldoobmmhloaaEA14
namespace Go.Proofs.Ytedldoobmmhloaa
set_option maxHeartbeats 12800000
set_option maxRecDepth 100000
open Go.RowKit
set_option linter.unusedSimpArgs false
set_option linter.unusedVariables false
theorem Le.below {w x : World} {a : Option Addr} {l : List Nv} (h : Le w a l) (hb : Below w.heap.size w x) : Le x a l := by
 rcases h with h | ⟨g, o, ha, hg, hc⟩
 ·exact Or.inl h
 ·exact Or.inr ⟨g, o, ha, Nat.lt_of_lt_of_le hg hb.size, fun j y hj t u hu => bel_cell hb hg (hc j y hj t u hu)⟩
theorem eval_of {w : World} {B g mi mv mo c : Nat} {v : Value} {ns : List Nd} {a : Option Addr} {l : List Nv} {id er : Int} {R : Bt} (h : Gr w B g mi mv v mo ns) (he : Le w a l) (hnm : ∀ x ∈ l, x.nm.size ≤ maxLen) (hl : l.length ≤ 1000)
  (HVL : Hid (∀ wx wb mg mk, Below w.heap.size w wx → w.heap.size ≤ mk → Wk wx wb g mg mk (fvF ns l) [] → Calls Try.prog 31 #[.pointer (some ⟨wb, 0, none⟩), .int .i64 id] wx fun e w' => e = .returned (.tuple #[.agg #[.int .i64 R.w, .int .u64 R.lo, .int .u64 R.hi], .int .i64 er]) ∧ wx.grownBy w' (some mk))) :
  Calls Try.prog 19 #[.pointer (some ⟨g, 0, none⟩), .int .i64 id, .slice a l.length c] w fun e w' => e = .returned (.tuple #[.agg #[.int .i64 R.w, .int .u64 R.lo, .int .u64 R.hi], .int .i64 er]) ∧ Below w.heap.size w w' := by
 have HNW : Hid (∀ wx, Below w.heap.size w wx → Calls Try.prog 30 #[.pointer (some ⟨g, 0, none⟩), .slice a l.length c] wx fun e w' => ∃ wb mk, e = .returned (.pointer (some ⟨wb, 0, none⟩)) ∧ wx.heap.size ≤ wb ∧ wx.heap.size ≤ mk ∧ Wk w' wb g wx.heap.size mk (fvF ns l) [] ∧ Below wx.heap.size wx w') := fun wx hb => nw_any (h.below hb) (he.below hb) hnm hl
 obtain ⟨n, hn⟩ : ∃ n, n = l.length := ⟨_, rfl⟩
 rw [← hn] at HNW ⊢
 clear h he hnm hl hn
 go_enter Try.func19, Try.ntmps19
 go_wp2_with fail
 refine Calls.mono (HNW.out _ (by go_grown)) ?_
 rintro e w1 ⟨wb, mk, rfl, hwb, hmk, hW, hb⟩
 have hB : Below w.heap.size w w1 := Below.trans (by go_grown) (hb.mono (by simp))
 have hmk' : w.heap.size + 1 ≤ mk := by simpa using hmk
 have hr : w1.heap[w.heap.size]? = some (.cells #[.int .i64 0, .int .u64 0, .int .u64 0] 25) := (hb.block _ (by simp)).trans (heap_alloc_new w _)
 have hs1 : w.heap.size < w1.heap.size := by have := hb.size; simp at this; omega
 have HW : Hid _ := hW
 have HR : Hid _ := hr
 clear hW hr hwb hmk hb
 go_wp2_with fail
 refine Calls.mono (HVL.out _ _ _ _ hB (by omega) HW.out) ?_
 rintro e w2 ⟨rfl, hg⟩
 have hr2 : w2.heap[w.heap.size]? = some (.cells #[.int .i64 0, .int .u64 0, .int .u64 0] 25) := (hg.block _ hs1 (fun e => by cases e; omega)).trans HR.out
 have hB2 : Below w.heap.size w w2 := hB.trans ⟨hg.os, hg.tape, hg.output, hg.size, fun k hk => hg.block k (by omega) (fun e => by cases e; omega)⟩
 have r0 : w2.cell? ⟨w.heap.size, 0, none⟩ = some (.int .i64 0) := cell_of hr2 0 rfl
 have r1 : w2.cell? ⟨w.heap.size, 1, none⟩ = some (.int .u64 0) := cell_of hr2 1 rfl
 have r2 : w2.cell? ⟨w.heap.size, 2, none⟩ = some (.int .u64 0) := cell_of hr2 2 rfl
 have rf : ∀ j, w2.frozen? ⟨w.heap.size, j, none⟩ = false := fun j => by simp [World.frozen?, hr2]
 have hs2 : w.heap.size < w2.heap.size := by have := hg.size; omega
 clear hg hr2 HR HW
 go_wp2_with fail
 refine bodyPost_ret (v := .tuple #[.agg #[.int .i64 R.w, .int .u64 R.lo, .int .u64 R.hi], .int .i64 er]) (by simp [results, Try.results19, go_sem, r0, r1, r2, hs2]) rfl ?_
 exact ⟨rfl, by go_grown⟩
def Bv' (w : World) (base : Nat) (v : Value) (l : List Bt) : Prop := w.ownsRow base 25 3 v l.length (l.flatMap Bt.cs)
def aLoop (VF : List (Int × Bt) → Int → List (Int × Bt) × Bt × Int) : List Int → List (Int × Bt) → List Bt × Int
 | [], _ => ([], 0)
 | p :: ps, M => if (VF M p).2.2 = 0 then ((VF M p).2.1 :: (aLoop VF ps (VF M p).1).1, (aLoop VF ps (VF M p).1).2) else ([], (VF M p).2.2)
def AllR (w : World) (b : Nat) (u : Value) (vs : List Bt) (er : Int) : Prop := if er = 0 then Bv' w b u vs else u = .slice none 0 0
theorem infoB : (Try.prog.info? 25).map (fun i => (i.zero, i.size, i.bytes)) = some (some (.agg #[.int .i64 0, .int .u64 0, .int .u64 0]), 3, 24) := by kernel_rfl
theorem underB : Try.prog.underlying 71 = some (.slice 25) := by kernel_rfl
theorem one_bt (b : Bt) : ∀ u ∈ b.cs, u.oneCell' = true := by
 intro u hu
 simp only [Bt.cs, List.mem_cons, List.not_mem_nil, or_false] at hu
 rcases hu with rfl | rfl | rfl <;> rfl
theorem cells_new3 {w : World} {x y z : Value} {t : TypeId} {b : Nat} (hb : b = w.heap.size) : ∀ j u, [x, y, z][j]? = some u → (w.alloc (.cells #[x, y, z] t)).cell? ((⟨b, 0, none⟩ : Addr).add j) = some u := by
 subst hb
 intro j u hj
 have h := cell_of (heap_alloc_new w (.cells #[x, y, z] t)) j (v := u) (by simpa using hj)
 rw [show ((⟨w.heap.size, 0, none⟩ : Addr).add j) = ⟨w.heap.size, j, none⟩ by simp only [Addr.add]; split <;> simp_all]
 exact h
theorem Wk.far {x y : World} {wb g mg mk : Nat} {G M : List (Int × Bt)} {row : Option Nat} {n : Nat} (h : Wk x wb g mg mk G M) (hg : x.grownBy y row) (hr : ∀ q, row = some q → n ≤ q) (h1 : wb < n) (h2 : mg < n) (h3 : mk < n) : Wk y wb g mg mk G M :=
 ⟨(hg.block _ h.lt.1 (fun e => by have := hr _ e.symm; omega)).trans h.hd, h.gv.kept (hg.block _ h.lt.2.1 (fun e => by have := hr _ e.symm; omega)), h.kn.kept (hg.block _ h.lt.2.2 (fun e => by have := hr _ e.symm; omega)), h.ne⟩
theorem row_low {w : World} {b b' : Nat} {e : TypeId} {sz : Nat} {v : Value} {n : Nat} {xs : List Value} (h : w.ownsRow b e sz v n xs) (hb : b' ≤ b) : w.ownsRow b' e sz v n xs := by
 refine ⟨h.1, ?_⟩
 rcases h.2 with hn | ⟨r, cap, cur, h1, h2, rest⟩
 ·exact .inl hn
 ·exact .inr ⟨r, cap, cur, h1, Nat.le_trans hb h2, rest⟩
theorem all_of {w : World} {B g mi mv mo c gi oi ci : Nat} {v : Value} {ns : List Nd} {a : Option Addr} {l : List Nv} {ids : List Int} {vs : List Bt} {er : Int} {VF : List (Int × Bt) → Int → List (Int × Bt) × Bt × Int} {I : Nat → List (Int × Bt) → Prop} (h : Gr w B g mi mv v mo ns) (he : Le w a l) (hnm : ∀ x ∈ l, x.nm.size ≤ maxLen) (hl : l.length ≤ 1000)
  (hids : Li w gi oi ids) (hgi : gi < w.heap.size) (hil : ids.length ≤ 1000)
  (HVL : Hid (∀ k p M' wx wb mg mk, ids[k]? = some p → I k M' → (∀ q, q < w.heap.size → wx.heap[q]? = w.heap[q]?) → w.grownBy wx none → w.heap.size ≤ mk → Wk wx wb g mg mk (fvF ns l) M' → Calls Try.prog 31 #[.pointer (some ⟨wb, 0, none⟩), .int .i64 p] wx fun e w' => e = .returned (.tuple #[.agg #[.int .i64 (VF M' p).2.1.w, .int .u64 (VF M' p).2.1.lo, .int .u64 (VF M' p).2.1.hi], .int .i64 (VF M' p).2.2]) ∧ Wk w' wb g mg mk (fvF ns l) (VF M' p).1 ∧ wx.grownBy w' (some mk)))
  (HI0 : Hid (I 0 [])) (HIS : Hid (∀ k p M', ids[k]? = some p → I k M' → (VF M' p).2.2 = 0 → I (k + 1) (VF M' p).1)) (hv : aLoop VF ids [] = (vs, er)) :
  Calls Try.prog 32 #[.pointer (some ⟨g, 0, none⟩), .slice (some ⟨gi, oi, none⟩) ids.length ci, .slice a l.length c] w fun e w' => ∃ u, e = .returned (.tuple #[u, .int .i64 er]) ∧ AllR w' w.heap.size u vs er ∧ Below w.heap.size w w' := by
 have HNW : Hid (∀ wx, Below w.heap.size w wx → Calls Try.prog 30 #[.pointer (some ⟨g, 0, none⟩), .slice a l.length c] wx fun e w' => ∃ wb mk, e = .returned (.pointer (some ⟨wb, 0, none⟩)) ∧ wx.heap.size ≤ wb ∧ wx.heap.size ≤ mk ∧ Wk w' wb g wx.heap.size mk (fvF ns l) [] ∧ Below wx.heap.size wx w') := fun wx hb => nw_any (h.below hb) (he.below hb) hnm hl
 obtain ⟨n, hn⟩ : ∃ n, n = l.length := ⟨_, rfl⟩
 rw [← hn] at HNW ⊢
 obtain ⟨N, hN⟩ : ∃ N, N = ids.length := ⟨_, rfl⟩
 have HN : Hid _ := hN
 rw [← hN] at hil ⊢
 obtain ⟨t0, ht0, hz0, hz1, hz2⟩ := info_parts infoB
 have HI : Hid (Try.prog.info? 25 = some t0 ∧ t0.zero = some (.agg #[.int .i64 0, .int .u64 0, .int .u64 0]) ∧ t0.size = 3 ∧ t0.bytes = 24) := ⟨ht0, hz0, hz1, hz2⟩
 have HLI : Hid _ := hids
 have HV : Hid _ := hv
 clear h he hnm hl hn hN hids hv ht0 hz0 hz1 hz2
 go_enter Try.func32, Try.ntmps32
 go_wp2_with fail
 refine Calls.mono (HNW.out _ (Below.refl _ _)) ?_
 rintro e w1 ⟨wb, mk, rfl, hwb, hmk, hW, hB⟩
 obtain ⟨w2, hmks, hown, hgr⟩ := run_make_own (P := Try.prog) w1 w1.heap.size 71 25 t0 (.agg #[.int .i64 0, .int .u64 0, .int .u64 0]) 3 underB HI.out.1 HI.out.2.1 HI.out.2.2.1 .i64 .i64 N (by rw [HI.out.2.2.2]; omega) (by unfold maxLen; omega) (Nat.le_refl _)
 have hb2 : Below w1.heap.size w1 w2 := ⟨hgr.os, hgr.tape, hgr.output, hgr.size, fun k hk => hgr.block k hk (fun e => by cases e)⟩
 have HW2 : Hid _ := hW.below hb2
 have HO2 : Hid (Bv' w2 w1.heap.size (.slice (some ⟨w1.heap.size, 0, none⟩) 0 N) []) := hown
 have hB2 : Below w.heap.size w w2 := hB.trans (hb2.mono hB.size)
 have hs1 := hB.size
 have hs2 := hb2.size
 obtain ⟨hwb1, hmg1, hmk1⟩ := hW.lt
 clear hW hown hgr hb2 hB
 go_wp2_with fail
 clear hmks
 go_loopw [9, 22] (fun u i wr => ∃ (k : Nat) (M' : List (Int × Bt)) (b : List Bt), k ≤ N ∧ i = .int .i64 (k : Int) ∧ Hid (I k M' ∧ b.length = k ∧ (vs, er) = (b ++ (aLoop VF (ids.drop k) M').1, (aLoop VF (ids.drop k) M').2) ∧ Wk wr wb g w.heap.size mk (fvF ns l) M' ∧ Bv' wr w1.heap.size u b ∧ Below w.heap.size w wr ∧ w1.heap.size ≤ wr.heap.size)) (fun u i wr => N - (intOf i).toNat)
 case atStart => exact ⟨0, [], [], Nat.zero_le _, rfl, HI0.out, rfl, by rw [List.drop_zero, HV.out]; rfl, HW2.out, HO2.out, hB2, hs2⟩
 case round =>
  clear HW2 HO2 hB2
  obtain ⟨k, M', b, hk, rfl, hH⟩ := hrel
  by_cases hlt : k < N
  ·obtain ⟨p, hp⟩ : ∃ p, ids[k]? = some p := ⟨_, List.getElem?_eq_getElem (by rw [← HN.out]; exact hlt)⟩
   have hbl := hH.out.2.2.2.2.2.1
   have hcell : wr.cell? ⟨gi, oi + k, none⟩ = some (.int .i64 p) := by
    have h1 := HLI.out k (by rw [← HN.out]; exact hlt)
    rw [List.getD_eq_getElem?_getD, hp] at h1
    exact bel_cell hbl hgi h1
   have hltI : (k : Int) < (N : Int) := by omega
   have HP : Hid _ := hp
   have HD : Hid (ids.drop k = p :: ids.drop (k + 1)) := by
    unfold Hid
    rw [List.drop_eq_getElem_cons (by rw [← HN.out]; exact hlt)]
    rw [show ids[k]'(by rw [← HN.out]; exact hlt) = p from by rw [List.getElem?_eq_getElem (by rw [← HN.out]; exact hlt)] at hp; exact Option.some.inj hp]
   have HBL : Hid _ := hbl
   clear hp hbl
   obtain ⟨u, hu⟩ : ∃ u, u = (VF M' p).2.1 := ⟨_, rfl⟩
   obtain ⟨e0, he0⟩ : ∃ e0, e0 = (VF M' p).2.2 := ⟨_, rfl⟩
   have HVQ : Hid (Calls Try.prog 31 #[.pointer (some ⟨wb, 0, none⟩), .int .i64 p] wr fun e w' => e = .returned (.tuple #[.agg #[.int .i64 u.w, .int .u64 u.lo, .int .u64 u.hi], .int .i64 e0]) ∧ Wk w' wb g w.heap.size mk (fvF ns l) (VF M' p).1 ∧ wr.grownBy w' (some mk)) := by
    rw [hu, he0]
    exact HVL.out k p M' wr wb _ mk HP.out hH.out.1 HBL.out.block (gb_below HBL.out) hmk hH.out.2.2.2.1
   have HD2 : Hid (if e0 = 0 then (vs, er) = (b ++ [u] ++ (aLoop VF (ids.drop (k + 1)) (VF M' p).1).1, (aLoop VF (ids.drop (k + 1)) (VF M' p).1).2) ∧ I (k + 1) (VF M' p).1 else er = e0) := by
    have h1 := hH.out.2.2.1
    rw [HD.out] at h1
    simp only [aLoop, ← he0, ← hu] at h1
    show ite _ _ _
    split
    ·rename_i h
     rw [if_pos h] at h1
     exact ⟨by rw [h1]; simp, HIS.out k p M' HP.out hH.out.1 (by rw [← he0]; exact h)⟩
    ·rename_i h
     rw [if_neg h] at h1
     exact (Prod.mk.inj h1).2
   clear hu he0
   go_wp2_with fail
   refine Calls.mono HVQ.out ?_
   rintro e w5 ⟨rfl, hW5, hg5⟩
   have HW5 : Hid _ := hW5
   have hb5 : Below w.heap.size w w5 := HBL.out.trans ⟨hg5.os, hg5.tape, hg5.output, hg5.size, fun q hq => hg5.block q (Nat.lt_of_lt_of_le hq HBL.out.size) (fun e => by cases e; omega)⟩
   have HO5 : Hid (Bv' w5 w1.heap.size u9 b) := by
    refine ⟨hH.out.2.2.2.2.1.1, ?_⟩
    rcases hH.out.2.2.2.2.1.2 with hn | ⟨r, cap, cur, hr1, hr2, hr3, rest⟩
    ·exact .inl hn
    ·exact .inr ⟨r, cap, cur, hr1, hr2, (hg5.block r (Array.getElem?_eq_some_iff.1 hr3).1 (fun e => by cases e; omega)).trans hr3, rest⟩
   have hs5 : w1.heap.size ≤ w5.heap.size := Nat.le_trans hH.out.2.2.2.2.2.2 hg5.size
   have hbl5 : b.length = k := hH.out.2.1
   clear hW5 hg5 HVQ
   by_cases he : e0 = 0
   ·subst he
    have HM1 : Hid ((vs, er) = (b ++ [u] ++ (aLoop VF (ids.drop (k + 1)) (VF M' p).1).1, (aLoop VF (ids.drop (k + 1)) (VF M' p).1).2) ∧ I (k + 1) (VF M' p).1) := by have h := HD2.out; rw [if_pos rfl] at h; exact h
    clear HD2
    go_wp2_with (at_builtin; refine wpList_append_own_at _ rfl _ _ 71 rfl w1.heap.size 25 t0 (.agg #[.int .i64 0, .int .u64 0, .int .u64 0]) 3 24 underB HI.out.1 HI.out.2.1 HI.out.2.2.1 HI.out.2.2.2 rfl (by decide) _ _ _ rfl (row_kept (row_kept HO5.out (fun _ hq => heap_alloc_old _ _ hq)) (fun _ hq => heap_alloc_old _ _ hq)) ⟨w5.heap.size + 1, 0, none⟩ 1 1 [.int .i64 u.w, .int .u64 u.lo, .int .u64 u.hi] rfl rfl (cells_new3 (by rw [size_alloc'])) (one_bt u) (by rw [hbl5]; unfold maxLen; omega) (by rw [hbl5]; omega) (by rw [size_alloc', size_alloc']; omega) ?_; intro v6 w6 hown hgrow hnil hat)
    have hb6 : Below w.heap.size w w6 := low_grown (hb5.alloc hb5.size _) (by rw [size_alloc']; have := hb5.size; omega) hgrow (fun q hq => by have := (HO5.out.lt q hq).1; omega)
    have HO6 : Hid (Bv' w6 w1.heap.size v6 (b ++ [u])) := by
     unfold Hid Bv'
     rw [List.flatMap_append, List.length_append]
     exact hown
    have HW6 : Hid _ := (HW5.out.below (((Below.refl w5.heap.size w5).alloc (Nat.le_refl _) (.cells #[.int .i64 u.w, .int .u64 u.lo, .int .u64 u.hi] 25)).alloc (by rw [size_alloc']; omega) (.cells #[.int .i64 u.w, .int .u64 u.lo, .int .u64 u.hi] 25))).far (n := w1.heap.size) hgrow (fun q hq => (HO5.out.lt q hq).1) hwb1 hmg1 hmk1
    have hs6 : w1.heap.size ≤ w6.heap.size := by have := hgrow.size; rw [size_alloc', size_alloc'] at this; omega
    clear hown hgrow hnil hat HO5 HW5
    go_wp2_with fail
    exact ⟨⟨k + 1, _, b ++ [u], by omega, by go_num, HM1.out.2, by rw [List.length_append, hbl5]; rfl, HM1.out.1, HW6.out, HO6.out, hb6, hs6⟩, by simp [intOf]; omega⟩
   ·have z1 : (e0 == 0) = false := by simpa using he
    have z2 : (e0 != 0) = true := by simpa using he
    have HM1 : Hid (er = e0) := by have h := HD2.out; rw [if_neg he] at h; exact h
    clear HD2
    go_wp2_with fail
    refine bodyPost_ret (v := .tuple #[.slice none 0 0, .int .i64 e0]) (by simp [results, Try.results32, go_sem]) rfl ?_
    rw [HM1.out]
    exact ⟨_, rfl, by unfold AllR; rw [if_neg he], by go_grown⟩
  ·obtain rfl : k = N := by omega
   have hltI : ¬ (k : Int) < (k : Int) := by omega
   have HF : Hid (vs = b ∧ er = 0) := by
    have h1 := hH.out.2.2.1
    rw [List.drop_eq_nil_of_le (by rw [← HN.out]; exact Nat.le_refl _)] at h1
    simp only [aLoop, List.append_nil] at h1
    exact Prod.mk.inj h1
   go_wp2_with fail
   refine bodyPost_ret (v := .tuple #[u9, .int .i64 0]) (by simp [results, Try.results32, go_sem]) rfl ?_
   rw [HF.out.1, HF.out.2]
   refine ⟨_, rfl, ?_, hH.out.2.2.2.2.2.1⟩
   unfold AllR
   rw [if_pos rfl]
   exact row_low hH.out.2.2.2.2.1 hs1
end Go.Proofs.Ytedldoobmmhloaa
