import Derived.Test.YtcahhahbcijkiaaGreatAG3
namespace Go.Proofs.YtcahhahbcijkiaaGreat.Ag
set_option maxHeartbeats 12800000
set_option maxRecDepth 100000
open Go.RowKit
set_option linter.unusedSimpArgs false
set_option linter.unusedVariables false
def w64 (x : Int) : Prop := -9223372036854775808 ≤ x ∧ x ≤ 9223372036854775807
theorem wf64 {x : Int} (h : w64 x) : (Lit.int .i64 x).wf = true := by
 unfold w64 at h
 simp only [Lit.wf, IntKind.min, IntKind.max, IntKind.signed, IntKind.bits, Bool.and_eq_true, decide_eq_true_eq, if_true]
 omega
theorem key_of {k : Kd} (h1 : k.1 < 100000) (h2 : k.2 < 100000) : ∃ kl, keyOf Tryz.prog 100 (kval k) = some kl := by
 obtain ⟨a, b⟩ := k
 dsimp only at h1 h2
 have g1 := wf64 (x := (a : Int)) ⟨by omega, by omega⟩
 have g2 := wf64 (x := (b : Int)) ⟨by omega, by omega⟩
 have hk : Tryz.prog.keyType 100 = true := by kernel_rfl
 have hfm : (kval (a, b)).formed Tryz.prog 100 = true := by kernel_rfl
 have e3 : Tryz.prog.cellsOf 3 = 1 := by kernel_rfl
 have e2 : Tryz.prog.cellsOf 100 = 2 := by kernel_rfl
 have hz : Tryz.prog.types.size + 1 = 213 + 1 + 1 + 1 := by kernel_rfl
 have q3 : ∀ (d : Nat) (x : Int), (Lit.int .i64 x).wf = true → Tryz.prog.keyLits (d + 1) 3 [.int .i64 x] = some [.int .i64 x] := fun d x hx => by
  unfold Program.keyLits; simp only [Tryz.underlying3]; simp [hx]
 have hmain : ∃ ls, Tryz.prog.keyLits (Tryz.prog.types.size + 1) 100 (kval (a, b)).cells.toList = some ls := by
  rw [hz]; unfold Program.keyLits; simp only [Tryz.underlying100]
  simp [kval, Value.cells, e3, e2, q3 _ (a : Int) g1, q3 _ (b : Int) g2, List.range_succ]
 obtain ⟨ls, hls⟩ := hmain
 unfold keyOf
 simp only [Tryz.underlying100, hk, hfm, Bool.and_self, if_true, hls, Option.map_some]
 exact ⟨_, rfl⟩
theorem inp_full {w : World} {F : Nat → Prop} {g mo : Nat} {ks : List Kd} (h : Gr w F g mo ks) (hroom : ks.length = mo + 1) :
  Rt 59 #[.pointer (some ⟨g, 0, none⟩)] w (.tuple #[.int .i64 0, .int .i64 81]) := by
 have HA : Hid (Rt 73 #[.pointer (some ⟨g, 0, none⟩), .agg #[.int .i64 0, .int .i64 0]] w (.tuple #[.int .i64 0, .int .i64 81])) := gadd_full h (k0 := (0, 0)) hroom
 clear h hroom
 go_enter Tryz.func59, Tryz.ntmps59
 go_wp2_with fail
 refine (HA.out).mono ?_
 rintro e wz ⟨rfl, hb⟩
 go_wp2_with fail
 refine bodyPost_ret (v := .tuple #[.int .i64 0, .int .i64 81]) (by simp [results, Tryz.results59, go_sem]) rfl ?_
 exact ⟨rfl, hb⟩
theorem AddR.ins {w w' : World} {g m mo : Nat} {v v' u : Value} {ks : List Kd} {k : Kd} (h : AddR w w' g m v v' u mo (ks ++ [k])) (hx : Gx w g m v u mo ks) : Is' w' 0 u (insL ks) ∧ Mp w' 100 m (andL ks) := by
 obtain ⟨s1, s2, s3, s4, s5, s6⟩ := hx.sep
 refine ⟨row_own hx.ins fun b e => h.block b (World.ownsRow.lt hx.ins b e).2 (fun q => s2 (by rw [e, q])) (fun q => s6 b q.symm e), hx.ands.kept (h.block m hx.ands.lt (fun q => s3 q.symm) (fun q => s4 q.symm))⟩
theorem grown_hd {w1 w2 : World} {o : Obj} {u : Value} {g : Nat} {x : Obj} (hd : w1.heap[g]? = some x) (hgrow : (w1.alloc o).grownBy w2 u.ownBlock) (hne : u.ownBlock ≠ some g) : w2.heap[g]? = some x := by
 have hl := (Array.getElem?_eq_some_iff.1 hd).1
 rw [hgrow.block g (by rw [size_alloc']; omega) (fun e => hne e.symm), heap_alloc_old _ _ hl]
 exact hd
theorem row_cur {w : World} {B : Nat} {e : TypeId} {sz : Nat} {v : Value} {n : Nat} {xs : List Value} (h : w.ownsRow B e sz v n xs) {b : Nat} (hb : v.ownBlock = some b) : ∃ cur, w.heap[b]? = some (.cells cur e) := by
 rcases h.2 with ⟨rfl, _⟩ | ⟨r, cap, cur, rfl, _, hr, _⟩
 ·cases hb
 ·cases hb; exact ⟨cur, hr⟩
theorem row_ne {w : World} {B B' : Nat} {e e' : TypeId} {sz sz' : Nat} {v v' : Value} {n n' : Nat} {xs xs' : List Value} (h : w.ownsRow B e sz v n xs) (h' : w.ownsRow B' e' sz' v' n' xs') (he : e ≠ e') {b : Nat} (hb : v.ownBlock = some b) : v'.ownBlock ≠ some b := by
 intro hb'
 obtain ⟨cur, q⟩ := row_cur h hb
 obtain ⟨cur', q'⟩ := row_cur h' hb'
 rw [q] at q'
 cases q'
 exact he rfl
theorem inp_end {w w1 w2 : World} {F : Nat → Prop} {g m mo p : Nat} {v v' u : Value} {ks : List Kd} {o : Obj} (hx : Gx w g m v u mo ks) (hF : F g ∧ F m ∧ (∀ b, v.ownBlock = some b → F b) ∧ ∀ b, u.ownBlock = some b → F b) (ha : AddR w w1 g m v v' u mo (ks ++ [(0, 0)]))
  (hd : w2.heap[g]? = some (.cells #[.int .i64 (mo : Int), v', .map (some m), u] 75)) (ho : w2.ownsRow 0 3 1 (sl ((insL ks).length + 1) p) ((insL ks).length + 1) ((insL ks).map (Value.int .i64) ++ [.int .i64 (2 * (ks.length : Int))])) (hg : (w1.alloc o).grownBy w2 u.ownBlock) (hat : (sl ((insL ks).length + 1) p).ownBlock = u.ownBlock ∨ (sl ((insL ks).length + 1) p).ownBlock = some (w1.alloc o).heap.size) (hroom : ks.length ≤ mo) :
  ∃ F', Gr (w2.setCell ⟨g, 3, none⟩ (sl ((insL ks).length + 1) p)) F' g mo (ks ++ [(0, 0)]) ∧ Ch w (w2.setCell ⟨g, 3, none⟩ (sl ((insL ks).length + 1) p)) F F' := by
 obtain ⟨s1, s2, s3, s4, s5, s6⟩ := hx.sep
 obtain ⟨hi1, hm1⟩ := ha.ins hx
 have hz1 := ha.size
 have hz2 := hg.size
 rw [size_alloc'] at hz2 hat
 have hgl := hx.lt
 have hml := hx.ands.lt
 have kp : ∀ k, k < w1.heap.size → u.ownBlock ≠ some k → w2.heap[k]? = w1.heap[k]? := fun k h1 h2 => (hg.block k (by rw [size_alloc']; omega) (fun e => h2 e.symm)).trans (heap_alloc_old _ _ h1)
 have hv'u : ∀ b, v'.ownBlock = some b → u.ownBlock ≠ some b := fun b e => row_ne ha.row hi1 (by decide) e
 have hv'g : v'.ownBlock ≠ some g := fun e => by
  obtain ⟨cur, q⟩ := row_cur ha.row e
  rw [ha.hd] at q; cases q
 have hvg : (sl ((insL ks).length + 1) p).ownBlock ≠ some g := fun e => by
  obtain ⟨cur, q⟩ := row_cur ho e
  rw [hd] at q; cases q
 have r1 : w2.ownsRow 0 100 2 v' (ks ++ [(0, 0)]).length ((ks ++ [(0, 0)]).flatMap kcs) := row_own ha.row fun b e => kp b (ha.row.lt b e).2 (hv'u b e)
 have hm2 : Mp w2 100 m (andL ks) := hm1.kept (kp m (by omega) s5)
 have hsz : (w2.setCell ⟨g, 3, none⟩ (sl ((insL ks).length + 1) p)).heap.size = w2.heap.size := by rw [World.size_setCell]
 have hp := hx.inv.pos
 refine ⟨fun k => F k ∨ (w.heap.size ≤ k ∧ k < w2.heap.size), ⟨m, v', sl ((insL ks).length + 1) p, ⟨?_, row_far r1 hv'g, ?_, ?_, hx.most, by simp; omega, hx.inv.snoc (fun e => absurd rfl e)⟩, Or.inl hF.1, Or.inl hF.2.1, fun b e => ?_, fun b e => ?_⟩, ⟨?_, ?_, ?_, by rw [hsz]; omega, fun k h1 h2 => ?_, fun k hk => by rw [hsz]; exact hk⟩⟩
 ·rw [heap_setCell_same _ _ _ _ _ _ hd]; rfl
 ·rw [andL_snoc, if_pos rfl, List.append_nil]
  exact hm2.kept (heap_setCell_other _ _ _ _ (fun e => s3 e.symm))
 ·unfold Is'
  rw [insL_snoc, if_pos ⟨rfl, by omega⟩, List.map_append, List.length_append]
  exact row_far ho hvg
 ·rcases ha.own with q | ⟨b', q, hb⟩
  ·exact Or.inl (hF.2.2.1 b (by rw [← q]; exact e))
  ·right
   have := (r1.lt b e).2
   rw [q] at e; cases e
   exact ⟨hb, this⟩
 ·rcases hat with q | q
  ·exact Or.inl (hF.2.2.2 b (by rw [← q]; exact e))
  ·right
   have := (ho.lt b e).2
   rw [q] at e; cases e
   exact ⟨by omega, this⟩
 ·exact hg.os.trans ha.os
 ·exact hg.tape.trans ha.tape
 ·exact hg.output.trans ha.output
 ·have k1 : k ≠ g := fun e => h2 (by rw [e]; exact hF.1)
  have k2 : some k ≠ v.ownBlock := fun e => h2 (hF.2.2.1 k e.symm)
  have k3 : u.ownBlock ≠ some k := fun e => h2 (hF.2.2.2 k e)
  rw [heap_setCell_other _ _ _ _ (fun e => k1 e), kp k (by omega) k3]
  exact ha.block k h1 k1 k2
theorem inp_new {w : World} {F : Nat → Prop} {g mo : Nat} {ks : List Kd} (h : Gr w F g mo ks) (hroom : ks.length ≤ mo) :
  Calls Tryz.prog 59 #[.pointer (some ⟨g, 0, none⟩)] w fun e w' => e = .returned (.tuple #[.int .i64 (2 * (ks.length : Int)), .int .i64 0]) ∧ ∃ F', Gr w' F' g mo (ks ++ [(0, 0)]) ∧ Ch w w' F F' := by
 obtain ⟨m, v, u, hx, f1, f2, f3, f4⟩ := h
 have HA : Hid (Calls Tryz.prog 73 #[.pointer (some ⟨g, 0, none⟩), .agg #[.int .i64 0, .int .i64 0]] w fun e w' => e = .returned (.tuple #[.int .i64 (2 * (ks.length : Int)), .int .i64 0]) ∧ ∃ v', AddR w w' g m v v' u mo (ks ++ [(0, 0)])) := gadd_any hx (k0 := (0, 0)) hroom
 have HX : Hid _ := hx
 have HF : Hid _ := And.intro f1 (And.intro f2 (And.intro f3 f4))
 have hm := hx.most
 have hlen := insL_len ks
 obtain ⟨t0, ht0, hz0, hz1, hz2⟩ := info_any infoInt
 have HI0 : Hid (Tryz.prog.info? 3 = some t0 ∧ t0.zero = some (.int .i64 0) ∧ t0.size = 1 ∧ t0.bytes = 8) := ⟨ht0, hz0, hz1, hz2⟩
 clear hx f1 f2 f3 f4 ht0 hz0 hz1 hz2
 go_enter Tryz.func59, Tryz.ntmps59
 go_wp2_with fail
 refine (HA.out).mono ?_
 rintro e w1 ⟨rfl, v', hadd⟩
 have HAD : Hid _ := hadd
 have hd := hadd.hd
 have c3 : w1.cell? ⟨g, 3, none⟩ = some u := cell_of hd 3 rfl
 have hu : Hid (Is' w1 0 u (insL ks)) := (hadd.ins HX.out).1
 have hg1 : g < w1.heap.size := (Array.getElem?_eq_some_iff.1 hd).1
 clear hadd HA hd
 go_wp2_with (at_builtin; refine wpList_append_own_at _ rfl _ _ 34 rfl 0 3 t0 (.int .i64 0) 1 8 underInts HI0.out.1 HI0.out.2.1 HI0.out.2.2.1 HI0.out.2.2.2 rfl (by decide) u _ _ rfl (row_kept hu.out (fun _ hq => heap_alloc_old _ _ hq)) ⟨w1.heap.size, 0, none⟩ 1 1 [.int .i64 (2 * (ks.length : Int))] rfl rfl (cell_one_new _ _ _) (ones [2 * (ks.length : Int)]) (by unfold maxLen; omega) (by omega) (by simp) ?_; intro v1 w2 hown hgrow hnil hat; obtain ⟨p, rfl⟩ := sl_own hown (by omega); have hd2 := grown_hd HAD.out.hd hgrow HX.out.sep.2.1; have f3 : w2.cell? ⟨g, 3, none⟩ = some u := cell_of hd2 3 rfl; have fz : w2.frozen? ⟨g, 3, none⟩ = false := (by simp [World.frozen?, hd2]); have HD2 : Hid _ := hd2; have HOW : Hid _ := hown; have HGR : Hid _ := hgrow; have HAT : Hid _ := hat; clear hd2 hown hgrow hat hnil; unfold sl)
 refine bodyPost_ret (v := .tuple #[.int .i64 (2 * (ks.length : Int)), .int .i64 0]) (by simp [results, Tryz.results59, go_sem]) rfl ?_
 refine ⟨rfl, ?_⟩
 exact inp_end HX.out HF.out HAD.out HD2.out HOW.out HGR.out HAT.out hroom
theorem find_none {ks : List Kd} {k : Kd} (h : ks.findIdx? (fun l => decide (l = k)) = none) : k ∉ ks := by
 intro hm
 have := List.findIdx?_eq_none_iff.1 h k hm
 simp at this
theorem find_some {ks : List Kd} {k : Kd} {i : Nat} (h : ks.findIdx? (fun l => decide (l = k)) = some i) : ks[i]? = some k := by
 obtain ⟨hi, e, _⟩ := List.findIdx?_eq_some_iff_getElem.1 h
 rw [List.getElem?_eq_getElem hi]
 simpa using e
theorem both_old {w : World} {F : Nat → Prop} {g mo : Nat} {ks : List Kd} (h : Gr w F g mo ks) {k0 : Kd} (hk : k0 ≠ (0, 0)) {i : Nat} (hi : ks[i]? = some k0) (h1 : k0.1 < 100000) (h2 : k0.2 < 100000) :
  Rt 185 #[.pointer (some ⟨g, 0, none⟩), kval k0] w (.tuple #[.int .i64 (2 * (i : Int)), .int .i64 0]) := by
 obtain ⟨m, v, u, hx, -⟩ := h
 obtain ⟨kl, hkl⟩ := key_of h1 h2
 have c2 := hx.c2
 have hg := hx.lt
 have hlk : ∀ n, (Instr.lookup 73 (.map (some m)) (.agg #[.int .i64 (k0.1 : Int), .int .i64 (k0.2 : Int)]) true).run Tryz.prog ((w.alloc (.cells #[.int .i64 (k0.1 : Int), .int .i64 (k0.2 : Int)] 100)).drewN n) = .ok (.tuple #[.int .i64 (2 * (i : Int)), .bool true]) ((w.alloc (.cells #[.int .i64 (k0.1 : Int), .int .i64 (k0.2 : Int)] 100)).drewN n) := fun n => by
  refine Mp.yes (k := 100) (L := andL ks) (hx.ands.kept ?_) arrLaw underMap (zeroInt _) hkl (in_andL hi hk) fun p hp he => ?_
  ·exact heap_alloc_old _ _ hx.ands.lt
  ·obtain ⟨j, l, hj, hl0, rfl⟩ := mem_andL hp
   have := kval_inj he
   subst this
   rw [hx.inv.once i j l hi hj hl0]
 clear hx hi hkl
 unfold kval
 go_enter Tryz.func185, Tryz.ntmps185
 go_wp2_with fail
 go_quiet (fail)
 go_wp2_with fail
 refine bodyPost_ret (v := .tuple #[.int .i64 (2 * (i : Int)), .int .i64 0]) (by simp [results, Tryz.results185, go_sem]) rfl ?_
 exact ⟨rfl, below_drewN (by go_grown) _⟩
theorem both_full {w : World} {F : Nat → Prop} {g mo : Nat} {ks : List Kd} (h : Gr w F g mo ks) {k0 : Kd} (hk : k0 ∉ ks) (hroom : ks.length = mo + 1) (h1 : k0.1 < 100000) (h2 : k0.2 < 100000) :
  Rt 185 #[.pointer (some ⟨g, 0, none⟩), kval k0] w (.tuple #[.int .i64 0, .int .i64 81]) := by
 have HA : Hid (∀ wx, Below w.heap.size w wx → Rt 73 #[.pointer (some ⟨g, 0, none⟩), .agg #[.int .i64 (k0.1 : Int), .int .i64 (k0.2 : Int)]] wx (.tuple #[.int .i64 0, .int .i64 81])) := fun wx hb => gadd_full (h.below hb) (k0 := k0) hroom
 obtain ⟨m, v, u, hx, -⟩ := h
 obtain ⟨kl, hkl⟩ := key_of h1 h2
 have c2 := hx.c2
 have hg := hx.lt
 have hlk : ∀ n, (Instr.lookup 73 (.map (some m)) (.agg #[.int .i64 (k0.1 : Int), .int .i64 (k0.2 : Int)]) true).run Tryz.prog ((w.alloc (.cells #[.int .i64 (k0.1 : Int), .int .i64 (k0.2 : Int)] 100)).drewN n) = .ok (.tuple #[.int .i64 0, .bool false]) ((w.alloc (.cells #[.int .i64 (k0.1 : Int), .int .i64 (k0.2 : Int)] 100)).drewN n) := fun n => by
  refine Mp.no (k := 100) (L := andL ks) (hx.ands.kept ?_) arrLaw underMap (zeroInt _) hkl fun p hp he => ?_
  ·exact heap_alloc_old _ _ hx.ands.lt
  ·obtain ⟨j, l, hj, hl0, rfl⟩ := mem_andL hp
   have := kval_inj he
   subst this
   exact hk (List.mem_of_getElem? hj)
 clear hx hkl
 unfold kval
 go_enter Tryz.func185, Tryz.ntmps185
 go_wp2_with fail
 go_quiet (fail)
 go_wp2_with fail
 refine (HA.out _ (below_drewN (by go_grown) _)).mono ?_
 rintro e w1 ⟨rfl, hb⟩
 have hb1 : Below w.heap.size w w1 := Below.trans (below_drewN (by go_grown) _) (hb.mono (by simp))
 clear hb
 go_wp2_with fail
 refine bodyPost_ret (v := .tuple #[.int .i64 0, .int .i64 81]) (by simp [results, Tryz.results185, go_sem]) rfl ?_
 exact ⟨rfl, hb1⟩
theorem both_end {w w1 X : World} {F : Nat → Prop} {g m mo : Nat} {v v' u : Value} {ks : List Kd} {k0 : Kd} (hx : Gx w g m v u mo ks) (hF : F g ∧ F m ∧ (∀ b, v.ownBlock = some b → F b) ∧ ∀ b, u.ownBlock = some b → F b) (hk0 : k0 ≠ (0, 0)) (hin : Inv (ks ++ [k0])) (hroom : ks.length ≤ mo) (ha : AddR w w1 g m v v' u mo (ks ++ [k0]))
  (hM : Mp X 100 m (andL ks ++ [(kval k0, .int .i64 (2 * (ks.length : Int)))])) (hg : w1.drew.grownBy X (some m)) :
  ∃ F', Gr X F' g mo (ks ++ [k0]) ∧ Ch w X F F' := by
 obtain ⟨s1, s2, s3, s4, s5, s6⟩ := hx.sep
 obtain ⟨hi1, hm1⟩ := ha.ins hx
 have hz1 := ha.size
 have hz2 : w1.heap.size ≤ X.heap.size := hg.size
 have hgl := hx.lt
 have hml := hx.ands.lt
 have kp : ∀ k, k < w1.heap.size → k ≠ m → X.heap[k]? = w1.heap[k]? := fun k h1 h2 => hg.block k h1 (fun e => h2 (by cases e; rfl))
 have hv'm : v'.ownBlock ≠ some m := fun e => by
  obtain ⟨cur, q⟩ := row_cur ha.row e
  obtain ⟨es, cl, q', _⟩ := hm1
  rw [q'] at q; cases q
 refine ⟨fun k => F k ∨ (w.heap.size ≤ k ∧ k < X.heap.size), ⟨m, v', u, ⟨(kp g (by omega) s3).trans ha.hd, row_own ha.row fun b e => kp b (ha.row.lt b e).2 (fun q => hv'm (by rw [← q]; exact e)), ?_, ?_, hx.most, by simp; omega, hin⟩, Or.inl hF.1, Or.inl hF.2.1, fun b e => ?_, fun b e => Or.inl (hF.2.2.2 b e)⟩, ⟨hg.os.trans ha.os, hg.tape.trans ha.tape, hg.output.trans ha.output, by omega, fun k h1 h2 => ?_, fun k hk => hk⟩⟩
 ·rw [andL_snoc, if_neg hk0]; exact hM
 ·rw [insL_snoc, if_neg (fun e => hk0 e.1), List.append_nil]
  exact row_own hi1 fun b e => kp b (World.ownsRow.lt hi1 b e).2 (fun q => s5 (by rw [← q]; exact e))
 ·rcases ha.own with q | ⟨b', q, hb⟩
  ·exact Or.inl (hF.2.2.1 b (by rw [← q]; exact e))
  ·right
   have := (ha.row.lt b e).2
   rw [q] at e; cases e
   exact ⟨hb, by omega⟩
 ·have k1 : k ≠ g := fun e => h2 (by rw [e]; exact hF.1)
  have k2 : some k ≠ v.ownBlock := fun e => h2 (hF.2.2.1 k e.symm)
  have k3 : k ≠ m := fun e => h2 (by rw [e]; exact hF.2.1)
  rw [kp k (by omega) k3]
  exact ha.block k h1 k1 k2
theorem both_new {w : World} {F : Nat → Prop} {g mo : Nat} {ks : List Kd} (h : Gr w F g mo ks) {k0 : Kd} (hk0 : k0 ≠ (0, 0)) (hk : k0 ∉ ks) (hin : Inv (ks ++ [k0])) (hroom : ks.length ≤ mo) (h1 : k0.1 < 100000) (h2 : k0.2 < 100000) :
  Calls Tryz.prog 185 #[.pointer (some ⟨g, 0, none⟩), kval k0] w fun e w' => e = .returned (.tuple #[.int .i64 (2 * (ks.length : Int)), .int .i64 0]) ∧ ∃ F', Gr w' F' g mo (ks ++ [k0]) ∧ Ch w w' F F' := by
 obtain ⟨m, v, u, hx, f1, f2, f3, f4⟩ := h
 have HA : Hid (∀ wx, Below w.heap.size w wx → Calls Tryz.prog 73 #[.pointer (some ⟨g, 0, none⟩), .agg #[.int .i64 (k0.1 : Int), .int .i64 (k0.2 : Int)]] wx fun e w' => e = .returned (.tuple #[.int .i64 (2 * (ks.length : Int)), .int .i64 0]) ∧ ∃ v', AddR wx w' g m v v' u mo (ks ++ [k0])) := fun wx hb => gadd_any (hx.below hb) (k0 := k0) hroom
 obtain ⟨kl, hkl⟩ := key_of h1 h2
 have c2 := hx.c2
 have hg := hx.lt
 have HX : Hid _ := hx
 have HF : Hid _ := And.intro f1 (And.intro f2 (And.intro f3 f4))
 have HNO : Hid (∀ p ∈ andL ks, p.1 ≠ kval k0) := fun p hp he => by
  obtain ⟨j, l, hj, hl0, rfl⟩ := mem_andL hp
  have := kval_inj he
  subst this
  exact hk (List.mem_of_getElem? hj)
 have hlk : ∀ n, (Instr.lookup 73 (.map (some m)) (.agg #[.int .i64 (k0.1 : Int), .int .i64 (k0.2 : Int)]) true).run Tryz.prog ((w.alloc (.cells #[.int .i64 (k0.1 : Int), .int .i64 (k0.2 : Int)] 100)).drewN n) = .ok (.tuple #[.int .i64 0, .bool false]) ((w.alloc (.cells #[.int .i64 (k0.1 : Int), .int .i64 (k0.2 : Int)] 100)).drewN n) := fun n => by
  refine Mp.no (k := 100) (L := andL ks) (hx.ands.kept ?_) arrLaw underMap (zeroInt _) hkl HNO.out
  exact heap_alloc_old _ _ hx.ands.lt
 have HKL : Hid _ := hkl
 clear hx hkl f1 f2 f3 f4 hk
 unfold kval
 go_enter Tryz.func185, Tryz.ntmps185
 go_wp2_with fail
 go_quiet (fail)
 go_wp2_with fail
 obtain ⟨w0, hw0⟩ : ∃ w0, w0 = ((w.alloc (.cells #[.int .i64 (k0.1 : Int), .int .i64 (k0.2 : Int)] 100)).drewN nq) := ⟨_, rfl⟩
 have hb0 : Below w.heap.size w w0 := by rw [hw0]; exact below_drewN (by go_grown) _
 have hs0 : w0.heap.size = w.heap.size + 1 := by rw [hw0]; simp
 have hbx : w0.heap[w.heap.size]? = some (.cells #[.int .i64 (k0.1 : Int), .int .i64 (k0.2 : Int)] 100) := by rw [hw0]; exact heap_alloc_new w _
 rw [← hw0]
 clear hlk hw0 nq
 refine (HA.out w0 hb0).mono ?_
 rintro e w1 ⟨rfl, v', hadd⟩
 have hX0 := HX.out.below hb0
 obtain ⟨s1, s2, s3, s4, s5, s6⟩ := hX0.sep
 have hz1 := hadd.size
 obtain ⟨X2, hmu', hM2, hgr2, hsz2⟩ := Mp.store (w := w1.drew) (val := .int .i64 (2 * (ks.length : Int))) ((hadd.ins hX0).2.kept (w' := w1.drew) rfl) arrLaw underMap HKL.out HNO.out
 have hmu : (Instr.mapUpdate 73 (.map (some m)) (.agg #[.int .i64 (k0.1 : Int), .int .i64 (k0.2 : Int)]) (.int .i64 (2 * (ks.length : Int)))).run Tryz.prog w1.drew = .ok () X2 := hmu'
 have d2 : w1.cell? ⟨g, 2, none⟩ = some (.map (some m)) := cell_of hadd.hd 2 rfl
 have hbx1 : w1.heap[w.heap.size]? = some (.cells #[.int .i64 (k0.1 : Int), .int .i64 (k0.2 : Int)] 100) := (hadd.block _ (by omega) (by omega) (fun e => by have := (HX.out.row.lt _ e.symm).2; omega)).trans hbx
 have b0 : w1.cell? ⟨w.heap.size, 0, none⟩ = some (.int .i64 (k0.1 : Int)) := cell_of hbx1 0 rfl
 have b1 : w1.cell? ⟨w.heap.size, 1, none⟩ = some (.int .i64 (k0.2 : Int)) := cell_of hbx1 1 rfl
 have HEND : Hid _ := both_end (F := F) hX0 HF.out hk0 hin hroom hadd hM2 hgr2
 clear hmu' hM2 hgr2 hadd hX0 s1 s2 s3 s4 s5 s6 hbx hbx1 HA hin
 go_wp2_with fail
 go_region
 all_goals
  go_wp2_with fail
  refine bodyPost_ret (v := .tuple #[.int .i64 (2 * (ks.length : Int)), .int .i64 0]) (by simp [results, Tryz.results185, go_sem]) rfl ?_
  obtain ⟨F', hG, hC⟩ := HEND.out
  exact ⟨rfl, F', hG, Ch.trans (Ch.of_below F hb0) hC⟩
end Go.Proofs.YtcahhahbcijkiaaGreat.Ag
