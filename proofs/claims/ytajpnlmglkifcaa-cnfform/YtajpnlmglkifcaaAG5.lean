/- Contracts (aig): an and that is found or made. -/
import Derived.Test.YtajpnlmglkifcaaAG4
namespace Go.Proofs.Ytajpnlmglkifcaa
open Go.RowKit
set_option linter.unusedSimpArgs false
set_option linter.unusedVariables false

theorem find_none {ks : List Kd} {k : Kd} (h : ks.findIdx? (fun l => decide (l = k)) = none) : k ∉ ks := by
  intro hm
  have := List.findIdx?_eq_none_iff.1 h k hm
  simp at this
theorem find_some {ks : List Kd} {k : Kd} {i : Nat} (h : ks.findIdx? (fun l => decide (l = k)) = some i) : ks[i]? = some k := by
  obtain ⟨hi, e, _⟩ := List.findIdx?_eq_some_iff_getElem.1 h
  rw [List.getElem?_eq_getElem hi]
  simpa using e

set_option maxHeartbeats 1600000 in
theorem both_old {w : World} {F : Nat → Prop} {g mo : Nat} {ks : List Kd} (h : Gr w F g mo ks) {k0 : Kd} (hk : k0 ≠ (0, 0)) {i : Nat} (hi : ks[i]? = some k0) (h1 : k0.1 < 100000) (h2 : k0.2 < 100000) :
    Calls Try.prog 48 #[.pointer (some ⟨g, 0, none⟩), kval k0] w fun e w' => e = .returned (.tuple #[.int .i64 (2 * (i : Int)), .int .i64 0]) ∧ Below w.heap.size w w' := by
  obtain ⟨m, v, u, hx, -⟩ := h
  obtain ⟨kl, hkl⟩ := key_of h1 h2
  have c2 := hx.c2
  have hg := hx.lt
  have hlk : ∀ n, (Instr.lookup 67 (.map (some m)) (.agg #[.int .i64 (k0.1 : Int), .int .i64 (k0.2 : Int)]) true).run Try.prog ((w.alloc (.cells #[.int .i64 (k0.1 : Int), .int .i64 (k0.2 : Int)] 72)).drewN n) = .ok (.tuple #[.int .i64 (2 * (i : Int)), .bool true]) ((w.alloc (.cells #[.int .i64 (k0.1 : Int), .int .i64 (k0.2 : Int)] 72)).drewN n) := fun n => by
    refine Mp.yes (k := 72) (L := andL ks) (hx.ands.kept ?_) arrLaw underMap (zeroInt _) hkl (in_andL hi hk) fun p hp he => ?_
    · exact heap_alloc_old _ _ hx.ands.lt
    · obtain ⟨j, l, hj, hl0, rfl⟩ := mem_andL hp
      have := kval_inj he
      subst this
      rw [hx.inv.once i j l hi hj hl0]
  clear hx hi hkl
  unfold kval
  go_enter Try.func48, Try.ntmps48
  go_wp2_with fail
  go_quiet (fail)
  go_wp2_with fail
  refine bodyPost_ret (v := .tuple #[.int .i64 (2 * (i : Int)), .int .i64 0]) (by simp [results, Try.results48, go_sem]) rfl ?_
  exact ⟨rfl, below_drewN (by go_grown) _⟩

set_option maxHeartbeats 1600000 in
theorem both_full {w : World} {F : Nat → Prop} {g mo : Nat} {ks : List Kd} (h : Gr w F g mo ks) {k0 : Kd} (hk : k0 ∉ ks) (hroom : ks.length = mo + 1) (h1 : k0.1 < 100000) (h2 : k0.2 < 100000) :
    Calls Try.prog 48 #[.pointer (some ⟨g, 0, none⟩), kval k0] w fun e w' => e = .returned (.tuple #[.int .i64 0, .int .i64 81]) ∧ Below w.heap.size w w' := by
  have HA : Hid (∀ wx, Below w.heap.size w wx → Calls Try.prog 46 #[.pointer (some ⟨g, 0, none⟩), .agg #[.int .i64 (k0.1 : Int), .int .i64 (k0.2 : Int)]] wx fun e w' => e = .returned (.tuple #[.int .i64 0, .int .i64 81]) ∧ Below wx.heap.size wx w') := fun wx hb => gadd_full (h.below hb) (k0 := k0) hroom
  obtain ⟨m, v, u, hx, -⟩ := h
  obtain ⟨kl, hkl⟩ := key_of h1 h2
  have c2 := hx.c2
  have hg := hx.lt
  have hlk : ∀ n, (Instr.lookup 67 (.map (some m)) (.agg #[.int .i64 (k0.1 : Int), .int .i64 (k0.2 : Int)]) true).run Try.prog ((w.alloc (.cells #[.int .i64 (k0.1 : Int), .int .i64 (k0.2 : Int)] 72)).drewN n) = .ok (.tuple #[.int .i64 0, .bool false]) ((w.alloc (.cells #[.int .i64 (k0.1 : Int), .int .i64 (k0.2 : Int)] 72)).drewN n) := fun n => by
    refine Mp.no (k := 72) (L := andL ks) (hx.ands.kept ?_) arrLaw underMap (zeroInt _) hkl fun p hp he => ?_
    · exact heap_alloc_old _ _ hx.ands.lt
    · obtain ⟨j, l, hj, hl0, rfl⟩ := mem_andL hp
      have := kval_inj he
      subst this
      exact hk (List.mem_of_getElem? hj)
  clear hx hkl
  unfold kval
  go_enter Try.func48, Try.ntmps48
  go_wp2_with fail
  go_quiet (fail)
  go_wp2_with fail
  refine (HA.out _ (below_drewN (by go_grown) _)).mono ?_
  rintro e w1 ⟨rfl, hb⟩
  have hb1 : Below w.heap.size w w1 := Below.trans (below_drewN (by go_grown) _) (hb.mono (by simp))
  clear hb
  go_wp2_with fail
  refine bodyPost_ret (v := .tuple #[.int .i64 0, .int .i64 81]) (by simp [results, Try.results48, go_sem]) rfl ?_
  exact ⟨rfl, hb1⟩

theorem both_end {w w1 X : World} {F : Nat → Prop} {g m mo : Nat} {v v' u : Value} {ks : List Kd} {k0 : Kd} (hx : Gx w g m v u mo ks) (hF : F g ∧ F m ∧ (∀ b, v.ownBlock = some b → F b) ∧ ∀ b, u.ownBlock = some b → F b) (hk0 : k0 ≠ (0, 0)) (hin : Inv (ks ++ [k0])) (hroom : ks.length ≤ mo) (ha : AddR w w1 g m v v' u mo (ks ++ [k0]))
    (hM : Mp X 72 m (andL ks ++ [(kval k0, .int .i64 (2 * (ks.length : Int)))])) (hg : w1.drew.grownBy X (some m)) :
    ∃ F', Gr X F' g mo (ks ++ [k0]) ∧ Ch w X F F' := by
  obtain ⟨s1, s2, s3, s4, s5, s6⟩ := hx.sep
  obtain ⟨hi1, hm1⟩ := ha.ins hx
  have hz1 := ha.size
  have hz2 : w1.heap.size ≤ X.heap.size := hg.size
  have hgl := hx.lt
  have hml := hx.ands.lt
  have kp : ∀ k, k < w1.heap.size → k ≠ m → X.heap[k]? = w1.heap[k]? := fun k h1 h2 => hg.block k h1 (fun e => h2 (by cases e; rfl))
  have hv'm : v'.ownBlock ≠ some m := fun e => by
    obtain ⟨cur, q⟩ := row_cur ha.row e
    obtain ⟨es, cl, q', _⟩ := hm1
    rw [q'] at q; cases q
  refine ⟨fun k => F k ∨ (w.heap.size ≤ k ∧ k < X.heap.size), ⟨m, v', u, ⟨(kp g (by omega) s3).trans ha.hd, row_own ha.row fun b e => kp b (ha.row.lt b e).2 (fun q => hv'm (by rw [← q]; exact e)), ?_, ?_, hx.most, by simp; omega, hin⟩, Or.inl hF.1, Or.inl hF.2.1, fun b e => ?_, fun b e => Or.inl (hF.2.2.2 b e)⟩, ⟨hg.os.trans ha.os, hg.tape.trans ha.tape, hg.output.trans ha.output, by omega, fun k h1 h2 => ?_, fun k hk => hk⟩⟩
  · rw [andL_snoc, if_neg hk0]; exact hM
  · rw [insL_snoc, if_neg (fun e => hk0 e.1), List.append_nil]
    exact row_own hi1 fun b e => kp b (World.ownsRow.lt hi1 b e).2 (fun q => s5 (by rw [← q]; exact e))
  · rcases ha.own with q | ⟨b', q, hb⟩
    · exact Or.inl (hF.2.2.1 b (by rw [← q]; exact e))
    · right
      have := (ha.row.lt b e).2
      rw [q] at e; cases e
      exact ⟨hb, by omega⟩
  · have k1 : k ≠ g := fun e => h2 (by rw [e]; exact hF.1)
    have k2 : some k ≠ v.ownBlock := fun e => h2 (hF.2.2.1 k e.symm)
    have k3 : k ≠ m := fun e => h2 (by rw [e]; exact hF.2.1)
    rw [kp k (by omega) k3]
    exact ha.block k h1 k1 k2

set_option maxHeartbeats 3200000 in
theorem both_new {w : World} {F : Nat → Prop} {g mo : Nat} {ks : List Kd} (h : Gr w F g mo ks) {k0 : Kd} (hk0 : k0 ≠ (0, 0)) (hk : k0 ∉ ks) (hin : Inv (ks ++ [k0])) (hroom : ks.length ≤ mo) (h1 : k0.1 < 100000) (h2 : k0.2 < 100000) :
    Calls Try.prog 48 #[.pointer (some ⟨g, 0, none⟩), kval k0] w fun e w' => e = .returned (.tuple #[.int .i64 (2 * (ks.length : Int)), .int .i64 0]) ∧ ∃ F', Gr w' F' g mo (ks ++ [k0]) ∧ Ch w w' F F' := by
  obtain ⟨m, v, u, hx, f1, f2, f3, f4⟩ := h
  have HA : Hid (∀ wx, Below w.heap.size w wx → Calls Try.prog 46 #[.pointer (some ⟨g, 0, none⟩), .agg #[.int .i64 (k0.1 : Int), .int .i64 (k0.2 : Int)]] wx fun e w' => e = .returned (.tuple #[.int .i64 (2 * (ks.length : Int)), .int .i64 0]) ∧ ∃ v', AddR wx w' g m v v' u mo (ks ++ [k0])) := fun wx hb => gadd_any (hx.below hb) (k0 := k0) hroom
  obtain ⟨kl, hkl⟩ := key_of h1 h2
  have c2 := hx.c2
  have hg := hx.lt
  have HX : Hid _ := hx
  have HF : Hid _ := And.intro f1 (And.intro f2 (And.intro f3 f4))
  have HNO : Hid (∀ p ∈ andL ks, p.1 ≠ kval k0) := fun p hp he => by
    obtain ⟨j, l, hj, hl0, rfl⟩ := mem_andL hp
    have := kval_inj he
    subst this
    exact hk (List.mem_of_getElem? hj)
  have hlk : ∀ n, (Instr.lookup 67 (.map (some m)) (.agg #[.int .i64 (k0.1 : Int), .int .i64 (k0.2 : Int)]) true).run Try.prog ((w.alloc (.cells #[.int .i64 (k0.1 : Int), .int .i64 (k0.2 : Int)] 72)).drewN n) = .ok (.tuple #[.int .i64 0, .bool false]) ((w.alloc (.cells #[.int .i64 (k0.1 : Int), .int .i64 (k0.2 : Int)] 72)).drewN n) := fun n => by
    refine Mp.no (k := 72) (L := andL ks) (hx.ands.kept ?_) arrLaw underMap (zeroInt _) hkl HNO.out
    exact heap_alloc_old _ _ hx.ands.lt
  have HKL : Hid _ := hkl
  clear hx hkl f1 f2 f3 f4 hk
  unfold kval
  go_enter Try.func48, Try.ntmps48
  go_wp2_with fail
  go_quiet (fail)
  go_wp2_with fail
  obtain ⟨w0, hw0⟩ : ∃ w0, w0 = ((w.alloc (.cells #[.int .i64 (k0.1 : Int), .int .i64 (k0.2 : Int)] 72)).drewN nq) := ⟨_, rfl⟩
  have hb0 : Below w.heap.size w w0 := by rw [hw0]; exact below_drewN (by go_grown) _
  have hs0 : w0.heap.size = w.heap.size + 1 := by rw [hw0]; simp
  have hbx : w0.heap[w.heap.size]? = some (.cells #[.int .i64 (k0.1 : Int), .int .i64 (k0.2 : Int)] 72) := by rw [hw0]; exact heap_alloc_new w _
  rw [← hw0]
  clear hlk hw0 nq
  refine (HA.out w0 hb0).mono ?_
  rintro e w1 ⟨rfl, v', hadd⟩
  have hX0 := HX.out.below hb0
  obtain ⟨s1, s2, s3, s4, s5, s6⟩ := hX0.sep
  have hz1 := hadd.size
  obtain ⟨X2, hmu', hM2, hgr2, hsz2⟩ := Mp.store (w := w1.drew) (val := .int .i64 (2 * (ks.length : Int))) ((hadd.ins hX0).2.kept (w' := w1.drew) rfl) arrLaw underMap HKL.out HNO.out
  have hmu : (Instr.mapUpdate 67 (.map (some m)) (.agg #[.int .i64 (k0.1 : Int), .int .i64 (k0.2 : Int)]) (.int .i64 (2 * (ks.length : Int)))).run Try.prog w1.drew = .ok () X2 := hmu'
  have d2 : w1.cell? ⟨g, 2, none⟩ = some (.map (some m)) := cell_of hadd.hd 2 rfl
  have hbx1 : w1.heap[w.heap.size]? = some (.cells #[.int .i64 (k0.1 : Int), .int .i64 (k0.2 : Int)] 72) := (hadd.block _ (by omega) (by omega) (fun e => by have := (HX.out.row.lt _ e.symm).2; omega)).trans hbx
  have b0 : w1.cell? ⟨w.heap.size, 0, none⟩ = some (.int .i64 (k0.1 : Int)) := cell_of hbx1 0 rfl
  have b1 : w1.cell? ⟨w.heap.size, 1, none⟩ = some (.int .i64 (k0.2 : Int)) := cell_of hbx1 1 rfl
  have HEND : Hid _ := both_end (F := F) hX0 HF.out hk0 hin hroom hadd hM2 hgr2
  clear hmu' hM2 hgr2 hadd hX0 s1 s2 s3 s4 s5 s6 hbx hbx1 HA hin
  go_wp2_with fail
  go_region
  all_goals
    go_wp2_with fail
    refine bodyPost_ret (v := .tuple #[.int .i64 (2 * (ks.length : Int)), .int .i64 0]) (by simp [results, Try.results48, go_sem]) rfl ?_
    obtain ⟨F', hG, hC⟩ := HEND.out
    exact ⟨rfl, F', hG, Ch.trans (Ch.of_below F hb0) hC⟩
end Go.Proofs.Ytajpnlmglkifcaa
