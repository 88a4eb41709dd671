/- Contracts (the document's and-inverter graphs): Cone. -/
import Derived.Test.YtdmochghcmeebaaBH7
namespace Go.Proofs.Ytdmochghcmeebaa
open Go.RowKit
set_option linter.unusedSimpArgs false
set_option linter.unusedVariables false
/-- How far the two marks have come. -/
structure MT (w0 : World) (b I A B1 : Nat) (M : Nat → Bool) (g : Nat → Nat) (L : Nat → Bool) (x : World) : Prop where
  sz : x.heap.size = w0.heap.size
  os : x.os = w0.os
  tape : x.tape = w0.tape
  output : x.output = w0.output
  kp : ∀ q, q ≠ b → x.heap[q]? = w0.heap[q]?
  row : x.rowIs b 4 I (fun j => .bool (M j || (L 23 && decide (j = A)) || (L 25 && decide (j = B1))))
section
variable {w0 : World} {b I A B1 : Nat} {M : Nat → Bool} {g : Nat → Nat} {L : Nat → Bool} {x : World} {i : Nat}
theorem MT.start (h : w0.rowIs b 4 I (fun j => .bool (M j))) : MT w0 b I A B1 M g (fun _ => false) w0.drew := ⟨rfl, rfl, rfl, rfl, fun _ _ => rfl, World.rowIs.congr (w := w0.drew) h fun j _ => by simp⟩
theorem MT.go (h : MT w0 b I A B1 M g L x) (hi : (i != 23 && i != 25) = true) : MT w0 b I A B1 M g (updB L i) x := by
  simp only [Bool.and_eq_true, bne_iff_ne, ne_eq] at hi
  refine ⟨h.sz, h.os, h.tape, h.output, h.kp, ?_⟩
  rw [updB_ne (L := L) (i := i) (k := 23) (by omega), updB_ne (L := L) (i := i) (k := 25) (by omega)]
  exact h.row
theorem MT.s23 (h : MT w0 b I A B1 M g L x) (hL : L 23 = false) : MT w0 b I A B1 M g (updB L 23) (x.setCell ⟨b, A, none⟩ (.bool true)) := by
  refine ⟨by rw [World.size_setCell]; exact h.sz, h.os, h.tape, h.output, fun q hq => (heap_setCell_other _ _ _ _ hq).trans (h.kp q hq), ?_⟩
  rw [updB_eq, updB_ne (L := L) (i := 23) (k := 25) (by decide)]
  refine (h.row.set A (.bool true)).congr fun j _ => ?_
  rw [hL]
  by_cases e : j = A <;> simp [e]
theorem MT.s25 (h : MT w0 b I A B1 M g L x) (hL : L 25 = false) : MT w0 b I A B1 M g (updB L 25) (x.setCell ⟨b, B1, none⟩ (.bool true)) := by
  refine ⟨by rw [World.size_setCell]; exact h.sz, h.os, h.tape, h.output, fun q hq => (heap_setCell_other _ _ _ _ hq).trans (h.kp q hq), ?_⟩
  rw [updB_eq, updB_ne (L := L) (i := 25) (k := 23) (by decide)]
  refine (h.row.set B1 (.bool true)).congr fun j _ => ?_
  rw [hL]
  by_cases e : j = B1 <;> simp [e]
end


theorem rdn_same {ks : List Kd} {id k : Nat} (hk : k < id) (h : (rdn ks id (id - (k + 1)) (k + 1) && isK (ks.getD (k + 1) (0, 0))) = false) : rdn ks id (id - k) = rdn ks id (id - (k + 1)) := by
  rw [show id - k = (id - (k + 1)) + 1 by omega]
  funext j
  show (if (rdn ks id (id - (k + 1)) (id - (id - (k + 1))) && isK (ks.getD (id - (id - (k + 1))) (0, 0))) = true then _ else rdn ks id (id - (k + 1)) j) = _
  rw [show id - (id - (k + 1)) = k + 1 by omega, h, if_neg (by decide)]
theorem rdn_mark {ks : List Kd} {id k : Nat} {n : Kd} (hk : k < id) (hn : ks.getD (k + 1) (0, 0) = n) (h : (rdn ks id (id - (k + 1)) (k + 1) && isK n) = true) (j : Nat) : rdn ks id (id - k) j = (rdn ks id (id - (k + 1)) j || decide (j = n.1 / 2) || decide (j = n.2 / 2)) := by
  rw [show id - k = (id - (k + 1)) + 1 by omega]
  show (if (rdn ks id (id - (k + 1)) (id - (id - (k + 1))) && isK (ks.getD (id - (id - (k + 1))) (0, 0))) = true then rdn ks id (id - (k + 1)) j || decide (j = (ks.getD (id - (id - (k + 1))) (0, 0)).1 / 2) || decide (j = (ks.getD (id - (id - (k + 1))) (0, 0)).2 / 2) else _) = _
  rw [show id - (id - (k + 1)) = k + 1 by omega, hn, if_pos h]
/-- The parts up to k. -/
def upL (M : Nat → Bool) (k : Nat) : List Int := ((List.range k).map fun s => 1 + s).filterMap fun i => if M i = true then some (i : Int) else none
theorem upL_succ (M : Nat → Bool) (k : Nat) : upL M (k + 1) = upL M k ++ (if M (k + 1) = true then [(k : Int) + 1] else []) := by
  unfold upL
  rw [List.range_succ, List.map_append, List.filterMap_append]
  congr 1
  rw [List.map_singleton, Nat.add_comm 1 k]
  by_cases h : M (k + 1) = true <;> simp [h]
theorem upL_len (M : Nat → Bool) (k : Nat) : (upL M k).length ≤ k := by
  unfold upL
  refine Nat.le_trans (List.length_filterMap_le _ _) ?_
  simp

set_option maxHeartbeats 1600000 in
theorem rcone_no {w : World} {F : Nat → Prop} {g mo : Nat} {rs : List Kd} (h : Rg w F g mo rs) {l : Int} (hl : w64 l) (hb : litB (rs.length + 1) l = false) :
    Calls Try.prog 18 #[.pointer (some ⟨g, 0, none⟩), .int .i64 l] w fun e w' => e = .returned (.slice none 0 0) ∧ Below w.heap.size w w' := by
  have HIS : Hid _ := is_any h hl
  rw [hb] at HIS
  clear h hl hb
  go_enter Try.func18, Try.ntmps18
  go_wp2_with fail
  refine Calls.mono HIS.out ?_
  rintro e wz ⟨rfl, hw⟩
  rw [hw]
  clear hw wz
  go_wp2_with fail
  go_ret
  exact ⟨rfl, Below.refl _ _⟩
set_option maxRecDepth 20000 in
set_option maxHeartbeats 12800000 in
theorem rcone_yes {w : World} {F : Nat → Prop} {g mo : Nat} {rs : List Kd} (h : Rg w F g mo rs) {l : Nat} (hl : litB (rs.length + 1) (l : Int) = true) :
    Calls Try.prog 18 #[.pointer (some ⟨g, 0, none⟩), .int .i64 (l : Int)] w fun e w' => ∃ u, e = .returned u ∧ Rl w' w.heap.size u (coneF ((0, 0) :: rs) (l / 2)) ∧ Below w.heap.size w w' := by
  have hlen := h.len
  have hl2 := litB_iff.1 hl
  have HIS : Hid _ := is_any h (l := (l : Int)) ⟨by omega, by omega⟩
  rw [hl] at HIS
  have HIV : Hid _ := h.inv
  have hcu := cone_up h.inv (id := l / 2) (by simp; omega)
  obtain ⟨v1, hx, -⟩ := h
  have HC0 : Hid _ := hx.c0
  have c0 := hx.c0
  have hg := hx.lt
  obtain ⟨va, vc, rfl, hcell⟩ := hx.sl
  have HCE : Hid _ := hcell
  obtain ⟨N, eN⟩ : ∃ N, N = rs.length := ⟨_, rfl⟩
  have HN : Hid _ := eN
  rw [← eN] at HC0 c0 hlen hl2
  obtain ⟨id, eid⟩ : ∃ id, id = l / 2 := ⟨_, rfl⟩
  rw [← eid] at hcu ⊢
  obtain ⟨I, eI⟩ : ∃ I, I = N + 1 := ⟨_, rfl⟩
  have HEI : Hid _ := eI
  have HCU : Hid (coneF ((0, 0) :: rs) id = upL (rdn ((0, 0) :: rs) id id) id) := hcu
  have hidN : id ≤ N := by omega
  have hmk : ∀ wx, (Instr.makeSlice 23 (.int .i64 ((N : Int) + 1)) (.int .i64 ((N : Int) + 1))).run Try.prog wx = .ok (.slice (some ⟨wx.heap.size, 0, none⟩) I I) (wx.alloc (.cells (madeCells #[.bool false] I) 4)) := fun wx => by
    have hx := run_make_row' (P := Try.prog) 23 4 (.bool false) 1 underBools infoBool rfl .i64 .i64 I (by omega) (by omega) wx
    rw [show (I : Int) = (N : Int) + 1 by omega] at hx
    exact hx
  have hN4 : (N : Int) < 40000 := by omega
  have u1 : (l : Int) / 2 = (id : Int) := by omega
  have u3 : wrap64 (id : Int) = (id : Int) := by unfold wrap64; omega
  have hidI : (id : Int) < (I : Int) := by omega
  have hid4 : (id : Int) < 40000 := by omega
  have HROW : Hid ((w.alloc (.cells ((madeCells #[.bool false] I).setIfInBounds id (.bool true)) 4)).rowIs w.heap.size 4 I (fun j => .bool (rdn ((0, 0) :: rs) id 0 j))) :=
    ⟨_, heap_alloc_new w _, by rw [Array.size_setIfInBounds]; exact size_madeCells _ _, fun j hj => by
      show _ = some (Value.bool (decide (j = id)))
      rw [Array.getElem?_setIfInBounds]
      by_cases e : j = id
      · subst e; simp [size_madeCells, hj]
      · rw [if_neg (fun x => e x.symm)]; simp [madeCells, hj, e, Nat.mod_one]⟩
  have kc : (w.alloc (.cells (madeCells #[.bool false] I) 4)).cell? ⟨w.heap.size, id, none⟩ = some (.bool false) := (World.rowIs_made w (.bool false) I 4).cell (by omega)
  have kf : (w.alloc (.cells (madeCells #[.bool false] I) 4)).frozen? ⟨w.heap.size, id, none⟩ = false := (World.rowIs_made w (.bool false) I 4).frozen id
  obtain ⟨t0, ht0, hz0, hz1, hz2⟩ := info_any infoInt
  have HI0 : Hid (Try.prog.info? 3 = some t0 ∧ t0.zero = some (.int .i64 0) ∧ t0.size = 1 ∧ t0.bytes = 8) := ⟨ht0, hz0, hz1, hz2⟩
  clear hx hcell eN eI hl hl2 hcu eid ht0 hz0 hz1 hz2
  go_enter Try.func18, Try.ntmps18
  go_wp2_with fail
  refine Calls.mono HIS.out ?_
  rintro e wz ⟨rfl, hw⟩
  rw [hw]
  clear hw wz HIS
  go_wp2_with fail
  clear hmk kc kf c0
  go_loopw [6] (fun i wr => ∃ k : Nat, k ≤ id ∧ i = .int .i64 (k : Int) ∧ wr.rowIs w.heap.size 4 I (fun j => .bool (rdn ((0, 0) :: rs) id (id - k) j)) ∧ w.heap.size + 1 ≤ wr.heap.size ∧ Below w.heap.size w wr) (fun i wr => (intOf i).toNat)
  case atStart =>
    refine ⟨id, Nat.le_refl _, by first | rfl | go_num, ?_, by simp, by go_grown⟩
    rw [Nat.sub_self]; exact HROW.out
  case round =>
    clear HROW
    obtain ⟨k0, hk, rfl, hrow, hws, hbl⟩ := hrel
    by_cases hk0 : k0 = 0
    · subst hk0
      rw [Nat.sub_zero] at hrow
      obtain ⟨M, hM⟩ : ∃ M, M = rdn ((0, 0) :: rs) id id := ⟨_, rfl⟩
      rw [← hM] at hrow HCU
      have HR0 : Hid _ := hrow
      have HB0 : Hid _ := hbl
      have hw0 := hws
      clear hM hrow hbl hws HCE
      go_wp2_with fail
      go_loopw [7, 8] (fun v i wz => ∃ k : Nat, k ≤ id ∧ i = .int .i64 ((k : Int) + 1) ∧ Is' wz (w.heap.size + 1) v (upL M k) ∧ wz.rowIs w.heap.size 4 I (fun j => .bool (M j)) ∧ w.heap.size + 1 ≤ wz.heap.size ∧ Below w.heap.size w wz) (fun v i wz => id + 1 - (intOf i).toNat)
      case atStart => exact ⟨0, Nat.zero_le _, rfl, World.ownsRow_nil _ _ _ _, HR0.out, hw0, HB0.out⟩
      case round =>
        clear HR0 HB0 hw0
        obtain ⟨k, hk', rfl, hIs, hrow, hws, hbl⟩ := hrel
        have HI : Hid _ := hIs
        have x3 : (k : Int) < 40000 := by omega
        by_cases hki : k < id
        · have x1 : (k : Int) + 1 ≤ (id : Int) := by omega
          have x2 : (k : Int) + 1 < (I : Int) := by omega
          have cm : wr.cell? ⟨w.heap.size, k + 1, none⟩ = some (.bool (M (k + 1))) := hrow.cell (by have := HEI.out; omega)
          have HRW : Hid _ := hrow
          have HUS : Hid _ := upL_succ M k
          have HUL : Hid _ := upL_len M k
          have hsw : w.heap.size < wr.heap.size := by omega
          clear hrow hIs
          cases hm : M (k + 1)
          · rw [hm] at cm
            rw [hm, if_neg (by decide), List.append_nil] at HUS
            clear hm
            go_wp2_with fail
            exact ⟨⟨k + 1, by omega, by go_num, by rw [HUS.out]; exact HI.out, HRW.out, hws, hbl⟩, by simp [intOf]; omega⟩
          · rw [hm] at cm
            rw [hm, if_pos rfl] at HUS
            clear hm
            go_wp2_with (at_builtin; refine wpList_append_own_at _ rfl _ _ 43 rfl (w.heap.size + 1) 3 t0 (.int .i64 0) 1 8 underInts HI0.out.1 HI0.out.2.1 HI0.out.2.2.1 HI0.out.2.2.2 rfl (by decide) _ _ _ rfl (row_kept HI.out (fun _ hq => heap_alloc_old _ _ hq)) ⟨wr.heap.size, 0, none⟩ 1 1 [.int .i64 ((k : Int) + 1)] rfl rfl (cell_one_new _ _ _) (ones [(k : Int) + 1]) (by have := HUL.out; unfold maxLen; omega) (by have := HUL.out; omega) (by simp; omega) ?_; intro v1 w3 hown hgrow hnil hat)
            have hrw : ∀ q, u7.ownBlock = some q → w.heap.size + 1 ≤ q := fun q hq => (World.ownsRow.lt HI.out q hq).1
            have hb3 : Below w.heap.size w w3 := low_grown hbl (by omega) hgrow (fun q hq => by have := hrw q hq; omega)
            have hbk : w3.heap[w.heap.size]? = wr.heap[w.heap.size]? := (hgrow.block w.heap.size (by rw [size_alloc']; omega) (fun e => by have := hrw _ e.symm; omega)).trans (heap_alloc_old _ _ hsw)
            have hs3 : w.heap.size + 1 ≤ w3.heap.size := by have := hgrow.size; rw [size_alloc'] at this; omega
            refine ⟨⟨k + 1, by omega, by go_num, ?_, World.rowIs.of_block HRW.out hbk, hs3, hb3⟩, by simp [intOf]; omega⟩
            unfold Is'
            rw [HUS.out, List.map_append, List.length_append]
            exact hown
        · obtain rfl : k = id := by omega
          have x1d : decide ((k : Int) + 1 ≤ (k : Int)) = false := decide_eq_false (by omega)
          have HF : Hid (Rl wr w.heap.size u7 (coneF ((0, 0) :: rs) k)) := by
            unfold Hid
            rw [HCU.out]
            have := Is'.rl HI.out (by have := upL_len M k; omega)
            obtain ⟨a, c, q1, q2, q3, q4⟩ := this
            refine ⟨a, c, q1, q2, q3, ?_⟩
            rcases q4 with q4 | ⟨r, p1, p2, p3⟩
            · exact Or.inl q4
            · exact Or.inr ⟨r, p1, by omega, p3⟩
          obtain ⟨a1, c1, rfl, -⟩ := Is'.any HI.out
          clear HI hIs hrow
          go_wp2_with fail
          go_ret
          exact ⟨_, rfl, HF.out, hbl⟩
    · obtain ⟨k, rfl⟩ : ∃ k, k0 = k + 1 := ⟨k0 - 1, by omega⟩
      clear hk0
      obtain ⟨n, hn⟩ : ∃ n, rs[k]? = some n := ⟨_, List.getElem?_eq_getElem (by rw [← HN.out]; omega)⟩
      have hgd : ((0, 0) :: rs).getD (k + 1) (0, 0) = n := by rw [List.getD_eq_getElem?_getD, List.getElem?_cons_succ, hn]; rfl
      have cm : wr.cell? ⟨w.heap.size, k + 1, none⟩ = some (.bool (rdn ((0, 0) :: rs) id (id - (k + 1)) (k + 1))) := hrow.cell (by have := HEI.out; omega)
      rw [show ((k + 1 : Nat) : Int) = (k : Int) + 1 from rfl]
      have x1 : (0 : Int) < (k : Int) + 1 := by omega
      have x2 : (k : Int) + 1 < (I : Int) := by omega
      have x3 : (k : Int) < 40000 := by omega
      have x4 : (k : Int) < (N : Int) := by omega
      obtain ⟨r, rfl, hrl, hc⟩ := HCE.out.resolve_left (fun e => by rw [e] at hn; simp at hn)
      obtain ⟨q0, q1, q2⟩ := hc k n hn
      have c0 : wr.cell? ⟨g, 0, none⟩ = some (.slice (some ⟨r, 0, none⟩) N vc) := bel_cell hbl hg HC0.out
      have d0 := keep_cell hbl q0
      have d1 := keep_cell hbl q1
      have d2 := keep_cell hbl q2
      clear hc q0 q1 q2
      obtain ⟨mk, emk⟩ : ∃ mk, mk = rdn ((0, 0) :: rs) id (id - (k + 1)) (k + 1) := ⟨_, rfl⟩
      rw [← emk] at cm
      by_cases hb : (mk && isK n) = true
      · have HM : Hid _ := rdn_mark (id := id) (k := k) (by omega) hgd (by rw [← emk]; exact hb)
        rw [Bool.and_eq_true] at hb
        have hne : n ≠ (0, 0) := fun e => by have := hb.2; rw [e] at this; cases this
        rw [decide_eq_false hne] at d2
        rw [hb.1] at cm
        have hkd : n.1 / 2 ≤ k ∧ n.2 / 2 ≤ k := by
          have := HIV.out.kid (k + 1) n (by rw [List.getElem?_cons_succ]; exact hn) hne
          omega
        obtain ⟨k1, k2⟩ := n
        dsimp only at d0 d1 hkd HM
        obtain ⟨A, hA⟩ : ∃ A, A = k1 / 2 := ⟨_, rfl⟩
        obtain ⟨B1, hB⟩ : ∃ B1, B1 = k2 / 2 := ⟨_, rfl⟩
        rw [← hA, ← hB] at HM hkd
        have a1 : (A : Int) < (I : Int) := by omega
        have a2 : (B1 : Int) < (I : Int) := by omega
        have a1' : A < I := by omega
        have a2' : B1 < I := by omega
        have v1 : (k1 : Int).tdiv 2 = (A : Int) := by rw [Int.tdiv_eq_ediv_of_nonneg (by omega)]; omega
        have v2 : (k2 : Int).tdiv 2 = (B1 : Int) := by rw [Int.tdiv_eq_ediv_of_nonneg (by omega)]; omega
        have v3 : IntKind.i64.wrap (A : Int) = (A : Int) := by rw [IntKind.wrap_i64]; omega
        have v4 : IntKind.i64.wrap (B1 : Int) = (B1 : Int) := by rw [IntKind.wrap_i64]; omega
        have v5 : IntKind.i64.wrap (k : Int) = (k : Int) := by rw [IntKind.wrap_i64]; omega
        obtain ⟨M, hM⟩ : ∃ M, M = rdn ((0, 0) :: rs) id (id - (k + 1)) := ⟨_, rfl⟩
        rw [← hM] at HM hrow
        have HRR : Hid _ := hrow
        have HCF : Hid (∀ x : World, (∀ q, q ≠ w.heap.size → x.heap[q]? = wr.heap[q]?) → x.cell? ⟨g, 0, none⟩ = some (.slice (some ⟨r, 0, none⟩) N vc) ∧ x.cell? ⟨r, k * 3, none⟩ = some (.int .i64 (k1 : Int)) ∧ x.cell? ⟨r, k * 3 + 1, none⟩ = some (.int .i64 (k2 : Int))) := fun x hx => ⟨(World.cell?_of_block (hx g (by omega))).trans c0, (World.cell?_of_block (hx r (by omega))).trans d0, (World.cell?_of_block (hx r (by omega))).trans d1⟩
        clear hM hA hB hb hne hn hgd emk hrow
        go_wp2_with fail
        refine wp_named fun a0 ha0 => ?_
        have o0 := old_at ha0 (t := 0) rfl
        have o5 := old_at ha0 (t := 5) rfl
        have o6 := old_at ha0 (t := 6) rfl
        refine wp_region_lin (S := MT wr w.heap.size I A B1 M) [] (fun _ => 0) (by kernel_rfl) (by kernel_rfl) (by rw [← ha0]; kernel_rfl) (MT.start HRR.out) ?_
        apply LinAll.cons0
        · intro g5 L5 a5 x hLi haft hS hK; have t5 := (hK.old 5 (by kernel_rfl)).trans o5; (try dsimp only at t5); refine go_in (wanted_all rfl) ?_; intro K hk; clear haft hK hLi; go_simp; exact hk.out g5 x (fun _ _ => rfl) (hS.go rfl)
        apply LinAll.cons0
        · intro g5 L5 a5 x hLi haft hS hK; have t0 := (hK.old 0 (by kernel_rfl)).trans o0; (try dsimp only at t0); refine go_in (wanted_all rfl) ?_; intro K hk; clear haft hK hLi; go_simp; exact hk.out g5 x (fun _ _ => rfl) (hS.go rfl)
        apply LinAll.cons0
        · intro g5 L5 a5 x hLi haft hS hK; have t47 := hK.new 1 0 _ 47 _ rfl rfl rfl (by kernel_rfl) (waits haft 1 (by kernel_rfl)); (try dsimp only at t47); refine go_in (wanted_all rfl) ?_; intro K hk; clear haft hK hLi; go_simp; exact hk.out g5 x (fun _ _ => rfl) (hS.go rfl)
        apply LinAll.cons0
        · intro g5 L5 a5 x hLi haft hS hK; have t48 := hK.new 2 0 _ 48 _ rfl rfl rfl (by kernel_rfl) (waits haft 2 (by kernel_rfl)); (try dsimp only at t48); refine go_in (wanted_all rfl) ?_; intro K hk; clear haft hK hLi; go_simp; exact hk.out g5 x (fun _ _ => rfl) (hS.go rfl)
        apply LinAll.cons0
        · intro g5 L5 a5 x hLi haft hS hK; have t49 := hK.new 3 0 _ 49 _ rfl rfl rfl (by kernel_rfl) (waits haft 3 (by kernel_rfl)); (try dsimp only at t49); refine go_in (wanted_all rfl) ?_; intro K hk; obtain ⟨e1, e2, e3⟩ := HCF.out x hS.kp; clear haft hK hLi; go_simp; exact hk.out g5 x (fun _ _ => rfl) (hS.go rfl)
        apply LinAll.cons0
        · intro g5 L5 a5 x hLi haft hS hK; have t6 := (hK.old 6 (by kernel_rfl)).trans o6; (try dsimp only at t6); refine go_in (wanted_all rfl) ?_; intro K hk; clear haft hK hLi; go_simp; exact hk.out g5 x (fun _ _ => rfl) (hS.go rfl)
        apply LinAll.cons0
        · intro g5 L5 a5 x hLi haft hS hK; have t51 := hK.new 5 0 _ 51 _ rfl rfl rfl (by kernel_rfl) (waits haft 5 (by kernel_rfl)); (try dsimp only at t51); refine go_in (wanted_all rfl) ?_; intro K hk; clear haft hK hLi; go_simp; exact hk.out g5 x (fun _ _ => rfl) (hS.go rfl)
        apply LinAll.cons0
        · intro g5 L5 a5 x hLi haft hS hK; have t50 := hK.new 4 2 _ 50 _ rfl rfl rfl (by kernel_rfl) (waits haft 4 (by kernel_rfl)); have t52 := hK.new 6 0 _ 52 _ rfl rfl rfl (by kernel_rfl) (waits haft 6 (by kernel_rfl)); (try dsimp only at t50 t52); refine go_in (wanted_all rfl) ?_; intro K hk; clear haft hK hLi; go_simp; exact hk.out g5 x (fun _ _ => rfl) (hS.go rfl)
        apply LinAll.cons0
        · intro g5 L5 a5 x hLi haft hS hK; have t53 := hK.new 7 0 _ 53 _ rfl rfl rfl (by kernel_rfl) (waits haft 7 (by kernel_rfl)); (try dsimp only at t53); refine go_in (wanted_all rfl) ?_; intro K hk; clear haft hK hLi; go_simp; exact hk.out g5 x (fun _ _ => rfl) (hS.go rfl)
        apply LinAll.cons0
        · intro g5 L5 a5 x hLi haft hS hK; have t54 := hK.new 8 0 _ 54 _ rfl rfl rfl (by kernel_rfl) (waits haft 8 (by kernel_rfl)); (try dsimp only at t54); refine go_in (wanted_all rfl) ?_; intro K hk; obtain ⟨e1, e2, e3⟩ := HCF.out x hS.kp; clear haft hK hLi; go_simp; exact hk.out g5 x (fun _ _ => rfl) (hS.go rfl)
        apply LinAll.cons0
        · intro g5 L5 a5 x hLi haft hS hK; have t55 := hK.new 9 0 _ 55 _ rfl rfl rfl (by kernel_rfl) (waits haft 9 (by kernel_rfl)); (try dsimp only at t55); refine go_in (wanted_all rfl) ?_; intro K hk; clear haft hK hLi; go_simp; exact hk.out g5 x (fun _ _ => rfl) (hS.go rfl)
        apply LinAll.cons0
        · intro g5 L5 a5 x hLi haft hS hK; have t5 := (hK.old 5 (by kernel_rfl)).trans o5; (try dsimp only at t5); refine go_in (wanted_all rfl) ?_; intro K hk; clear haft hK hLi; go_simp; exact hk.out g5 x (fun _ _ => rfl) (hS.go rfl)
        apply LinAll.cons0
        · intro g5 L5 a5 x hLi haft hS hK; have t0 := (hK.old 0 (by kernel_rfl)).trans o0; (try dsimp only at t0); refine go_in (wanted_all rfl) ?_; intro K hk; clear haft hK hLi; go_simp; exact hk.out g5 x (fun _ _ => rfl) (hS.go rfl)
        apply LinAll.cons0
        · intro g5 L5 a5 x hLi haft hS hK; have t58 := hK.new 12 0 _ 58 _ rfl rfl rfl (by kernel_rfl) (waits haft 12 (by kernel_rfl)); (try dsimp only at t58); refine go_in (wanted_all rfl) ?_; intro K hk; clear haft hK hLi; go_simp; exact hk.out g5 x (fun _ _ => rfl) (hS.go rfl)
        apply LinAll.cons0
        · intro g5 L5 a5 x hLi haft hS hK; have t59 := hK.new 13 0 _ 59 _ rfl rfl rfl (by kernel_rfl) (waits haft 13 (by kernel_rfl)); (try dsimp only at t59); refine go_in (wanted_all rfl) ?_; intro K hk; clear haft hK hLi; go_simp; exact hk.out g5 x (fun _ _ => rfl) (hS.go rfl)
        apply LinAll.cons0
        · intro g5 L5 a5 x hLi haft hS hK; have t60 := hK.new 14 0 _ 60 _ rfl rfl rfl (by kernel_rfl) (waits haft 14 (by kernel_rfl)); (try dsimp only at t60); refine go_in (wanted_all rfl) ?_; intro K hk; obtain ⟨e1, e2, e3⟩ := HCF.out x hS.kp; clear haft hK hLi; go_simp; exact hk.out g5 x (fun _ _ => rfl) (hS.go rfl)
        apply LinAll.cons0
        · intro g5 L5 a5 x hLi haft hS hK; have t6 := (hK.old 6 (by kernel_rfl)).trans o6; (try dsimp only at t6); refine go_in (wanted_all rfl) ?_; intro K hk; clear haft hK hLi; go_simp; exact hk.out g5 x (fun _ _ => rfl) (hS.go rfl)
        apply LinAll.cons0
        · intro g5 L5 a5 x hLi haft hS hK; have t62 := hK.new 16 0 _ 62 _ rfl rfl rfl (by kernel_rfl) (waits haft 16 (by kernel_rfl)); (try dsimp only at t62); refine go_in (wanted_all rfl) ?_; intro K hk; clear haft hK hLi; go_simp; exact hk.out g5 x (fun _ _ => rfl) (hS.go rfl)
        apply LinAll.cons0
        · intro g5 L5 a5 x hLi haft hS hK; have t61 := hK.new 15 2 _ 61 _ rfl rfl rfl (by kernel_rfl) (waits haft 15 (by kernel_rfl)); have t63 := hK.new 17 0 _ 63 _ rfl rfl rfl (by kernel_rfl) (waits haft 17 (by kernel_rfl)); (try dsimp only at t61 t63); refine go_in (wanted_all rfl) ?_; intro K hk; clear haft hK hLi; go_simp; exact hk.out g5 x (fun _ _ => rfl) (hS.go rfl)
        apply LinAll.cons0
        · intro g5 L5 a5 x hLi haft hS hK; have t64 := hK.new 18 0 _ 64 _ rfl rfl rfl (by kernel_rfl) (waits haft 18 (by kernel_rfl)); (try dsimp only at t64); refine go_in (wanted_all rfl) ?_; intro K hk; clear haft hK hLi; go_simp; exact hk.out g5 x (fun _ _ => rfl) (hS.go rfl)
        apply LinAll.cons0
        · intro g5 L5 a5 x hLi haft hS hK; have t65 := hK.new 19 0 _ 65 _ rfl rfl rfl (by kernel_rfl) (waits haft 19 (by kernel_rfl)); (try dsimp only at t65); refine go_in (wanted_all rfl) ?_; intro K hk; obtain ⟨e1, e2, e3⟩ := HCF.out x hS.kp; clear haft hK hLi; go_simp; exact hk.out g5 x (fun _ _ => rfl) (hS.go rfl)
        apply LinAll.cons0
        · intro g5 L5 a5 x hLi haft hS hK; have t66 := hK.new 20 0 _ 66 _ rfl rfl rfl (by kernel_rfl) (waits haft 20 (by kernel_rfl)); (try dsimp only at t66); refine go_in (wanted_all rfl) ?_; intro K hk; clear haft hK hLi; go_simp; exact hk.out g5 x (fun _ _ => rfl) (hS.go rfl)
        apply LinAll.cons0
        · intro g5 L5 a5 x hLi haft hS hK; have t46 := hK.new 0 21 _ 46 _ rfl rfl rfl (by kernel_rfl) (waits haft 0 (by kernel_rfl)); have t56 := hK.new 10 11 _ 56 _ rfl rfl rfl (by kernel_rfl) (waits haft 10 (by kernel_rfl)); (try dsimp only at t46 t56); refine go_in (wanted_all rfl) ?_; intro K hk; clear haft hK hLi; go_simp; exact hk.out g5 x (fun _ _ => rfl) (hS.go rfl)
        refine LinAll.cons0 (v := fun _ => undef) ?_ ?_
        · intro g5 L5 a5 x hLi haft hS hK; have t68 := hK.new 22 0 _ 68 _ rfl rfl rfl (by kernel_rfl) (waits haft 22 (by kernel_rfl)); (try dsimp only at t68); refine go_in (wanted_all rfl) ?_; intro K hk; have m1 := hS.row.cell a1'; have m2 := hS.row.frozen A; have hN := hS.s23 hLi; clear haft hK hLi hS; go_simp; exact hk.out g5 _ (fun _ _ => rfl) hN
        apply LinAll.cons0
        · intro g5 L5 a5 x hLi haft hS hK; have t57 := hK.new 11 12 _ 57 _ rfl rfl rfl (by kernel_rfl) (waits haft 11 (by kernel_rfl)); have t67 := hK.new 21 2 _ 67 _ rfl rfl rfl (by kernel_rfl) (waits haft 21 (by kernel_rfl)); (try dsimp only at t57 t67); refine go_in (wanted_all rfl) ?_; intro K hk; clear haft hK hLi; go_simp; exact hk.out g5 x (fun _ _ => rfl) (hS.go rfl)
        refine LinAll.cons0 (v := fun _ => undef) ?_ ?_
        · intro g5 L5 a5 x hLi haft hS hK; have t69 := hK.new 24 0 _ 69 _ rfl rfl rfl (by kernel_rfl) (waits haft 24 (by kernel_rfl)); (try dsimp only at t69); refine go_in (wanted_all rfl) ?_; intro K hk; have m1 := hS.row.cell a2'; have m2 := hS.row.frozen B1; have hN := hS.s25 hLi; clear haft hK hLi hS; go_simp; exact hk.out g5 _ (fun _ _ => rfl) hN
        refine LinAll.nil fun g5 x hS => ?_
        subst ha0
        simp only [Act.put, List.setIfInBounds_toArray, List.set_cons_zero, List.set_cons_succ]
        clear o0 o5 o6
        have HS : Hid _ := hS
        clear hS
        go_wp2_with fail
        refine ⟨⟨k, by omega, by go_num, ?_, by rw [HS.out.sz]; exact hws, ?_⟩, by simp [intOf]⟩
        · refine HS.out.row.congr fun j _ => ?_
          rw [HM.out j]
          simp
        · exact hbl.trans ⟨HS.out.os, HS.out.tape, HS.out.output, Nat.le_of_eq HS.out.sz.symm, fun q hq => HS.out.kp q (by omega)⟩
      · rw [Bool.not_eq_true] at hb
        have HST : Hid _ := rdn_same (id := id) (k := k) (by omega) (by rw [hgd, ← emk]; exact hb)
        have HRW : Hid _ := hrow
        clear hrow emk hgd
        cases mk
        · go_wp2_with fail
          exact ⟨⟨k, by omega, by go_num, by rw [HST.out]; exact HRW.out, hws, hbl⟩, by simp [intOf]⟩
        · have h0 : n = (0, 0) := by
            unfold isK at hb
            simpa using hb
          rw [decide_eq_true h0] at d2
          clear hb h0 hn
          go_wp2_with fail
          exact ⟨⟨k, by omega, by go_num, by rw [HST.out]; exact HRW.out, hws, hbl⟩, by simp [intOf]⟩
theorem rcone_any {w : World} {F : Nat → Prop} {g mo : Nat} {rs : List Kd} (h : Rg w F g mo rs) {l : Int} (hl : w64 l) :
    Calls Try.prog 18 #[.pointer (some ⟨g, 0, none⟩), .int .i64 l] w fun e w' => ∃ u, e = .returned u ∧ Rl w' w.heap.size u (coneL ((0, 0) :: rs) l) ∧ Below w.heap.size w w' := by
  unfold coneL
  rw [show (((0, 0) : Kd) :: rs).length = rs.length + 1 from rfl]
  cases hb : litB (rs.length + 1) l
  · refine (rcone_no h hl hb).mono ?_
    rintro e w' ⟨rfl, hb⟩
    exact ⟨_, rfl, ⟨none, 0, rfl, Nat.le_refl _, by simp, Or.inl rfl⟩, hb⟩
  · obtain ⟨L, rfl⟩ : ∃ L : Nat, l = (L : Int) := ⟨l.toNat, by have := litB_iff.1 hb; omega⟩
    rw [Int.toNat_natCast]
    exact rcone_yes h hb
end Go.Proofs.Ytdmochghcmeebaa
