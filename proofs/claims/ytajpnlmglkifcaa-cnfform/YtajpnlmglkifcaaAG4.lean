/- Contracts (aig): an input; an and that is found or made. -/
import Derived.Test.YtajpnlmglkifcaaAG3
namespace Go.Proofs.Ytajpnlmglkifcaa
open Go.RowKit
set_option linter.unusedSimpArgs false
set_option linter.unusedVariables false

/-- Numbers of their kinds. -/
def w64 (x : Int) : Prop := -9223372036854775808 ≤ x ∧ x ≤ 9223372036854775807
theorem wf64 {x : Int} (h : w64 x) : (Lit.int .i64 x).wf = true := by
  unfold w64 at h
  simp only [Lit.wf, IntKind.min, IntKind.max, IntKind.signed, IntKind.bits, Bool.and_eq_true, decide_eq_true_eq, if_true]
  omega
theorem key_of {k : Kd} (h1 : k.1 < 100000) (h2 : k.2 < 100000) : ∃ kl, keyOf Try.prog 72 (kval k) = some kl := by
  obtain ⟨a, b⟩ := k
  dsimp only at h1 h2
  have g1 := wf64 (x := (a : Int)) ⟨by omega, by omega⟩
  have g2 := wf64 (x := (b : Int)) ⟨by omega, by omega⟩
  have hk : Try.prog.keyType 72 = true := by kernel_rfl
  have hfm : (kval (a, b)).formed Try.prog 72 = true := by kernel_rfl
  have e3 : Try.prog.cellsOf 3 = 1 := by kernel_rfl
  have e2 : Try.prog.cellsOf 72 = 2 := by kernel_rfl
  have hz : Try.prog.types.size + 1 = 124 + 1 + 1 + 1 := by kernel_rfl
  have q3 : ∀ (d : Nat) (x : Int), (Lit.int .i64 x).wf = true → Try.prog.keyLits (d + 1) 3 [.int .i64 x] = some [.int .i64 x] := fun d x hx => by
    unfold Program.keyLits; simp only [Try.underlying3]; simp [hx]
  have hmain : ∃ ls, Try.prog.keyLits (Try.prog.types.size + 1) 72 (kval (a, b)).cells.toList = some ls := by
    rw [hz]; unfold Program.keyLits; simp only [Try.underlying72]
    simp [kval, Value.cells, e3, e2, q3 _ (a : Int) g1, q3 _ (b : Int) g2, List.range_succ]
  obtain ⟨ls, hls⟩ := hmain
  unfold keyOf
  simp only [Try.underlying72, hk, hfm, Bool.and_self, if_true, hls, Option.map_some]
  exact ⟨_, rfl⟩
theorem Mp.far {w w' : World} {k : TypeId} {b : Nat} {L : List (Value × Value)} (h : Mp w k b L) (hb : w'.heap[b]? = w.heap[b]?) : Mp w' k b L := h.kept hb

set_option maxHeartbeats 1600000 in
theorem inp_full {w : World} {F : Nat → Prop} {g mo : Nat} {ks : List Kd} (h : Gr w F g mo ks) (hroom : ks.length = mo + 1) :
    Calls Try.prog 26 #[.pointer (some ⟨g, 0, none⟩)] w fun e w' => e = .returned (.tuple #[.int .i64 0, .int .i64 81]) ∧ Below w.heap.size w w' := by
  have HA : Hid (Calls Try.prog 46 #[.pointer (some ⟨g, 0, none⟩), .agg #[.int .i64 0, .int .i64 0]] w fun e w' => e = .returned (.tuple #[.int .i64 0, .int .i64 81]) ∧ Below w.heap.size w w') := gadd_full h (k0 := (0, 0)) hroom
  clear h hroom
  go_enter Try.func26, Try.ntmps26
  go_wp2_with fail
  refine (HA.out).mono ?_
  rintro e wz ⟨rfl, hb⟩
  go_wp2_with fail
  refine bodyPost_ret (v := .tuple #[.int .i64 0, .int .i64 81]) (by simp [results, Try.results26, go_sem]) rfl ?_
  exact ⟨rfl, hb⟩

/-- The graph behind adding a node, its map and inputs still those of before. -/
theorem AddR.ins {w w' : World} {g m mo : Nat} {v v' u : Value} {ks : List Kd} {k : Kd} (h : AddR w w' g m v v' u mo (ks ++ [k])) (hx : Gx w g m v u mo ks) : Is' w' 0 u (insL ks) ∧ Mp w' 72 m (andL ks) := by
  obtain ⟨s1, s2, s3, s4, s5, s6⟩ := hx.sep
  refine ⟨row_own hx.ins fun b e => h.block b (World.ownsRow.lt hx.ins b e).2 (fun q => s2 (by rw [e, q])) (fun q => s6 b q.symm e), hx.ands.kept (h.block m hx.ands.lt (fun q => s3 q.symm) (fun q => s4 q.symm))⟩

theorem grown_hd {w1 w2 : World} {o : Obj} {u : Value} {g : Nat} {x : Obj} (hd : w1.heap[g]? = some x) (hgrow : (w1.alloc o).grownBy w2 u.ownBlock) (hne : u.ownBlock ≠ some g) : w2.heap[g]? = some x := by
  have hl := (Array.getElem?_eq_some_iff.1 hd).1
  rw [hgrow.block g (by rw [size_alloc']; omega) (fun e => hne e.symm), heap_alloc_old _ _ hl]
  exact hd
theorem row_cur {w : World} {B : Nat} {e : TypeId} {sz : Nat} {v : Value} {n : Nat} {xs : List Value} (h : w.ownsRow B e sz v n xs) {b : Nat} (hb : v.ownBlock = some b) : ∃ cur, w.heap[b]? = some (.cells cur e) := by
  rcases h.2 with ⟨rfl, _⟩ | ⟨r, cap, cur, rfl, _, hr, _⟩
  · cases hb
  · cases hb; exact ⟨cur, hr⟩
/-- Rows of other elements lie in other blocks. -/
theorem row_ne {w : World} {B B' : Nat} {e e' : TypeId} {sz sz' : Nat} {v v' : Value} {n n' : Nat} {xs xs' : List Value} (h : w.ownsRow B e sz v n xs) (h' : w.ownsRow B' e' sz' v' n' xs') (he : e ≠ e') {b : Nat} (hb : v.ownBlock = some b) : v'.ownBlock ≠ some b := by
  intro hb'
  obtain ⟨cur, q⟩ := row_cur h hb
  obtain ⟨cur', q'⟩ := row_cur h' hb'
  rw [q] at q'
  cases q'
  exact he rfl

theorem inp_end {w w1 w2 : World} {F : Nat → Prop} {g m mo p : Nat} {v v' u : Value} {ks : List Kd} {o : Obj} (hx : Gx w g m v u mo ks) (hF : F g ∧ F m ∧ (∀ b, v.ownBlock = some b → F b) ∧ ∀ b, u.ownBlock = some b → F b) (ha : AddR w w1 g m v v' u mo (ks ++ [(0, 0)]))
    (hd : w2.heap[g]? = some (.cells #[.int .i64 (mo : Int), v', .map (some m), u] 69)) (ho : w2.ownsRow 0 3 1 (sl ((insL ks).length + 1) p) ((insL ks).length + 1) ((insL ks).map (Value.int .i64) ++ [.int .i64 (2 * (ks.length : Int))])) (hg : (w1.alloc o).grownBy w2 u.ownBlock) (hat : (sl ((insL ks).length + 1) p).ownBlock = u.ownBlock ∨ (sl ((insL ks).length + 1) p).ownBlock = some (w1.alloc o).heap.size) (hroom : ks.length ≤ mo) :
    ∃ F', Gr (w2.setCell ⟨g, 3, none⟩ (sl ((insL ks).length + 1) p)) F' g mo (ks ++ [(0, 0)]) ∧ Ch w (w2.setCell ⟨g, 3, none⟩ (sl ((insL ks).length + 1) p)) F F' := by
  obtain ⟨s1, s2, s3, s4, s5, s6⟩ := hx.sep
  obtain ⟨hi1, hm1⟩ := ha.ins hx
  have hz1 := ha.size
  have hz2 := hg.size
  rw [size_alloc'] at hz2 hat
  have hgl := hx.lt
  have hml := hx.ands.lt
  have kp : ∀ k, k < w1.heap.size → u.ownBlock ≠ some k → w2.heap[k]? = w1.heap[k]? := fun k h1 h2 => (hg.block k (by rw [size_alloc']; omega) (fun e => h2 e.symm)).trans (heap_alloc_old _ _ h1)
  have hv'u : ∀ b, v'.ownBlock = some b → u.ownBlock ≠ some b := fun b e => row_ne ha.row hi1 (by decide) e
  have hv'g : v'.ownBlock ≠ some g := fun e => by
    obtain ⟨cur, q⟩ := row_cur ha.row e
    rw [ha.hd] at q; cases q
  have hvg : (sl ((insL ks).length + 1) p).ownBlock ≠ some g := fun e => by
    obtain ⟨cur, q⟩ := row_cur ho e
    rw [hd] at q; cases q
  have r1 : w2.ownsRow 0 72 2 v' (ks ++ [(0, 0)]).length ((ks ++ [(0, 0)]).flatMap kcs) := row_own ha.row fun b e => kp b (ha.row.lt b e).2 (hv'u b e)
  have hm2 : Mp w2 72 m (andL ks) := hm1.kept (kp m (by omega) s5)
  have hsz : (w2.setCell ⟨g, 3, none⟩ (sl ((insL ks).length + 1) p)).heap.size = w2.heap.size := by rw [World.size_setCell]
  have hp := hx.inv.pos
  refine ⟨fun k => F k ∨ (w.heap.size ≤ k ∧ k < w2.heap.size), ⟨m, v', sl ((insL ks).length + 1) p, ⟨?_, row_far r1 hv'g, ?_, ?_, hx.most, by simp; omega, hx.inv.snoc (fun e => absurd rfl e)⟩, Or.inl hF.1, Or.inl hF.2.1, fun b e => ?_, fun b e => ?_⟩, ⟨?_, ?_, ?_, by rw [hsz]; omega, fun k h1 h2 => ?_, fun k hk => by rw [hsz]; exact hk⟩⟩
  · rw [heap_setCell_same _ _ _ _ _ _ hd]; rfl
  · rw [andL_snoc, if_pos rfl, List.append_nil]
    exact hm2.kept (heap_setCell_other _ _ _ _ (fun e => s3 e.symm))
  · unfold Is'
    rw [insL_snoc, if_pos ⟨rfl, by omega⟩, List.map_append, List.length_append]
    exact row_far ho hvg
  · rcases ha.own with q | ⟨b', q, hb⟩
    · exact Or.inl (hF.2.2.1 b (by rw [← q]; exact e))
    · right
      have := (r1.lt b e).2
      rw [q] at e; cases e
      exact ⟨hb, this⟩
  · rcases hat with q | q
    · exact Or.inl (hF.2.2.2 b (by rw [← q]; exact e))
    · right
      have := (ho.lt b e).2
      rw [q] at e; cases e
      exact ⟨by omega, this⟩
  · exact hg.os.trans ha.os
  · exact hg.tape.trans ha.tape
  · exact hg.output.trans ha.output
  · have k1 : k ≠ g := fun e => h2 (by rw [e]; exact hF.1)
    have k2 : some k ≠ v.ownBlock := fun e => h2 (hF.2.2.1 k e.symm)
    have k3 : u.ownBlock ≠ some k := fun e => h2 (hF.2.2.2 k e)
    rw [heap_setCell_other _ _ _ _ (fun e => k1 e), kp k (by omega) k3]
    exact ha.block k h1 k1 k2

set_option maxHeartbeats 3200000 in
theorem inp_new {w : World} {F : Nat → Prop} {g mo : Nat} {ks : List Kd} (h : Gr w F g mo ks) (hroom : ks.length ≤ mo) :
    Calls Try.prog 26 #[.pointer (some ⟨g, 0, none⟩)] w fun e w' => e = .returned (.tuple #[.int .i64 (2 * (ks.length : Int)), .int .i64 0]) ∧ ∃ F', Gr w' F' g mo (ks ++ [(0, 0)]) ∧ Ch w w' F F' := by
  obtain ⟨m, v, u, hx, f1, f2, f3, f4⟩ := h
  have HA : Hid (Calls Try.prog 46 #[.pointer (some ⟨g, 0, none⟩), .agg #[.int .i64 0, .int .i64 0]] w fun e w' => e = .returned (.tuple #[.int .i64 (2 * (ks.length : Int)), .int .i64 0]) ∧ ∃ v', AddR w w' g m v v' u mo (ks ++ [(0, 0)])) := gadd_any hx (k0 := (0, 0)) hroom
  have HX : Hid _ := hx
  have HF : Hid _ := And.intro f1 (And.intro f2 (And.intro f3 f4))
  have hm := hx.most
  have hlen := insL_len ks
  obtain ⟨t0, ht0, hz0, hz1, hz2⟩ := info_any infoInt
  have HI0 : Hid (Try.prog.info? 3 = some t0 ∧ t0.zero = some (.int .i64 0) ∧ t0.size = 1 ∧ t0.bytes = 8) := ⟨ht0, hz0, hz1, hz2⟩
  clear hx f1 f2 f3 f4 ht0 hz0 hz1 hz2
  go_enter Try.func26, Try.ntmps26
  go_wp2_with fail
  refine (HA.out).mono ?_
  rintro e w1 ⟨rfl, v', hadd⟩
  have HAD : Hid _ := hadd
  have hd := hadd.hd
  have c3 : w1.cell? ⟨g, 3, none⟩ = some u := cell_of hd 3 rfl
  have hu : Hid (Is' w1 0 u (insL ks)) := (hadd.ins HX.out).1
  have hg1 : g < w1.heap.size := (Array.getElem?_eq_some_iff.1 hd).1
  clear hadd HA hd
  go_wp2_with (at_builtin; refine wpList_append_own_at _ rfl _ _ 31 rfl 0 3 t0 (.int .i64 0) 1 8 underInts HI0.out.1 HI0.out.2.1 HI0.out.2.2.1 HI0.out.2.2.2 rfl (by decide) u _ _ rfl (row_kept hu.out (fun _ hq => heap_alloc_old _ _ hq)) ⟨w1.heap.size, 0, none⟩ 1 1 [.int .i64 (2 * (ks.length : Int))] rfl rfl (cell_one_new _ _ _) (ones [2 * (ks.length : Int)]) (by unfold maxLen; omega) (by omega) (by simp) ?_; intro v1 w2 hown hgrow hnil hat; obtain ⟨p, rfl⟩ := sl_own hown (by omega); have hd2 := grown_hd HAD.out.hd hgrow HX.out.sep.2.1; have f3 : w2.cell? ⟨g, 3, none⟩ = some u := cell_of hd2 3 rfl; have fz : w2.frozen? ⟨g, 3, none⟩ = false := (by simp [World.frozen?, hd2]); have HD2 : Hid _ := hd2; have HOW : Hid _ := hown; have HGR : Hid _ := hgrow; have HAT : Hid _ := hat; clear hd2 hown hgrow hat hnil; unfold sl)
  refine bodyPost_ret (v := .tuple #[.int .i64 (2 * (ks.length : Int)), .int .i64 0]) (by simp [results, Try.results26, go_sem]) rfl ?_
  refine ⟨rfl, ?_⟩
  exact inp_end HX.out HF.out HAD.out HD2.out HOW.out HGR.out HAT.out hroom
end Go.Proofs.Ytajpnlmglkifcaa
