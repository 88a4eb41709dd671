/- Contracts (the document's clauses): Set. -/
import Derived.Test.YthdgmkjjpmigeaaTV1
namespace Go.Proofs.Ythdgmkjjpmigeaa
open Go.RowKit
set_option linter.unusedSimpArgs false
set_option linter.unusedVariables false

theorem isl {w : World} {B : Nat} {u : Value} {l : List Int} (h : Is' w B u l) : ∃ a c, u = .slice a l.length c ∧ (l = [] ∨ ∃ r, a = some ⟨r, 0, none⟩ ∧ B ≤ r ∧ r < w.heap.size ∧ Li w r 0 l) := by
  by_cases hl : l = []
  · subst hl
    rcases h.2 with ⟨e, -⟩ | ⟨g, c, _, e, -⟩
    · exact ⟨_, _, e, Or.inl rfl⟩
    · exact ⟨_, _, e, Or.inl rfl⟩
  · obtain ⟨r, cap, e, hb, -, hL⟩ := h.li hl
    refine ⟨_, _, e, Or.inr ⟨r, rfl, hb, ?_, hL⟩⟩
    exact (World.ownsRow.lt h r (by rw [e]; rfl)).2
/-- A list with a place at j. -/
def shL (L : List Int) (j : Nat) (y : Int) : List Int := L.take j ++ y :: L.drop j
theorem shL_len {L : List Int} {j : Nat} (y : Int) (hj : j ≤ L.length) : (shL L j y).length = L.length + 1 := by
  unfold shL
  rw [List.length_append, List.length_cons, List.length_take, List.length_drop]
  omega
theorem sh_start (L : List Int) (y : Int) : L ++ [y] = shL L L.length y := by
  unfold shL
  rw [List.take_length, List.drop_length]
theorem sh_put {L : List Int} {q : Nat} (y x : Int) (hq : q ≤ L.length) : (shL L q y).set q x = shL L q x := by
  unfold shL
  have h1 : (L.take q).length = q := by rw [List.length_take]; omega
  rw [List.set_append_right _ _ (by omega), h1, Nat.sub_self]
  rfl
theorem sh_step {L : List Int} {j : Nat} {y z : Int} (hz : L[j]? = some z) : (shL L (j + 1) y).set (j + 1) z = shL L j z := by
  have hj : j < L.length := (List.getElem?_eq_some_iff.1 hz).1
  rw [sh_put y z (by omega)]
  unfold shL
  rw [List.take_add_one, hz, Option.toList_some, List.append_assoc]
  congr 1
  rw [List.drop_eq_getElem_cons hj]
  have e : L[j] = z := by rw [List.getElem?_eq_getElem hj] at hz; injection hz
  rw [e]
  rfl
theorem sh_get {L : List Int} {j : Nat} {y z : Int} (hz : L[j]? = some z) : (shL L (j + 1) y).getD j 0 = z := by
  have hj : j < L.length := (List.getElem?_eq_some_iff.1 hz).1
  unfold shL
  rw [List.getD_eq_getElem?_getD, List.getElem?_append_left (by rw [List.length_take]; omega), List.getElem?_take_of_lt (by omega), hz]
  rfl
theorem setF_le (c : List Int) : (setF c).length ≤ c.length := by
  have key : ∀ (c a : List Int), (c.foldl (fun a x => insZ x a) a).length ≤ c.length + a.length := fun c => by
    induction c with
    | nil => intro a; simp
    | cons x r ih =>
      intro a
      have := ih (insZ x a)
      have := insZ_le (x := x) (l := a)
      rw [List.foldl_cons, List.length_cons]
      omega
  have := key c []
  unfold setF
  simpa using this
set_option maxRecDepth 20000 in
set_option maxHeartbeats 800000 in
theorem set12_any {w : World} {u : Value} {c : List Int} (h : Sr w u c) (hl : c.length ≤ 100000) :
    Calls Try.prog 43 #[u] w fun ev w' => ∃ u', ev = .returned (.tuple #[u', .bool (c.all okZ)]) ∧ Is' w' w.heap.size u' (if c.all okZ then setF c else []) ∧ Below w.heap.size w w' := by
  obtain ⟨ti, ht0, hz0, hz1, hz2⟩ := info_any infoInt
  have HI : Hid _ := (⟨ht0, hz0, hz1, hz2⟩ : Try.prog.info? 3 = some ti ∧ ti.zero = _ ∧ ti.size = 1 ∧ ti.bytes = 8)
  obtain ⟨a, cap, rfl⟩ := h.out
  have HSR : Hid _ := h
  obtain ⟨Z, hZ⟩ : ∃ Z, Z = (if c.all okZ then setF c else []) := ⟨_, rfl⟩
  rw [← hZ]
  have HZZ : Hid _ := hZ
  clear hZ
  obtain ⟨R, hR⟩ : ∃ R, R = c.all okZ := ⟨_, rfl⟩
  rw [← hR] at HZZ ⊢
  have HR : Hid _ := hR
  obtain ⟨m, hm⟩ : ∃ m, m = c.length := ⟨_, rfl⟩
  have HM : Hid _ := hm
  rw [← hm] at HSR hl ⊢
  clear h hR hm ht0 hz0 hz1 hz2
  go_enter Try.func43, Try.ntmps43
  go_wp2_with fail
  go_loopw [4, 5] (fun u i wr => ∃ k : Nat, k ≤ m ∧ i = .int .i64 (k : Int) ∧ Hid (Is' wr w.heap.size u (setF (c.take k)) ∧ Below w.heap.size w wr ∧ ∀ j y, j < k → c[j]? = some y → okZ y = true)) (fun u i wr => m - (intOf i).toNat)
  case atStart => exact ⟨0, Nat.zero_le _, rfl, World.ownsRow_nil _ _ _ _, Below.refl _ _, fun j y hj => by omega⟩
  case round =>
    obtain ⟨k, hk, rfl, hH⟩ := hrel
    by_cases hkm : k < m
    · obtain ⟨x, hxk⟩ : ∃ x, c[k]? = some x := ⟨_, List.getElem?_eq_getElem (by rw [← HM.out]; exact hkm)⟩
      obtain ⟨rc, ro, rfl, dx0⟩ := HSR.out.at' (Below.refl _ _) (k := k) (by rw [← HM.out]; exact hkm)
      rw [List.getD_eq_getElem?_getD, hxk] at dx0
      have dx0 : w.cell? ⟨rc, ro + k, none⟩ = some (.int .i64 x) := dx0
      have HDX : Hid _ := dx0
      have hrcl : rc < w.heap.size := World.block_lt_of_cell? _ _ dx0
      by_cases hokx : okZ x = true
      rotate_left 1
      · have HRF : Hid (R = false) := by
          unfold Hid
          rw [HR.out, List.all_eq_false]
          exact ⟨x, List.mem_of_getElem? hxk, hokx⟩
        have dx : wr.cell? ⟨rc, ro + k, none⟩ = some (.int .i64 x) := keep_cell hH.out.2.1 dx0
        have hkI : (k : Int) < (m : Int) := by omega
        have hbad : x = 0 ∨ (x ≠ 0 ∧ 2147483647 < x) ∨ (x ≠ 0 ∧ ¬ 2147483647 < x ∧ x < -2147483647) := by
          unfold okZ at hokx
          simp at hokx
          omega
        obtain ⟨aL, cL, hul⟩ := own_slice hH.out.1
        obtain ⟨nL, hnL⟩ : ∃ n, n = (setF (c.take k)).length := ⟨_, rfl⟩
        rw [← hnL] at hul
        subst hul
        clear hxk hokx dx0 hnL
        rcases hbad with rfl | ⟨b0, b1⟩ | ⟨b0, b1, b2⟩
        · go_wp2_with fail
          go_ret2
          rw [HZZ.out, HRF.out]
          exact ⟨_, rfl, World.ownsRow_nil _ _ _ _, hH.out.2.1⟩
        · have z0 : (x == 0) = false := by simp [b0]
          go_wp2_with fail
          go_ret2
          rw [HZZ.out, HRF.out]
          exact ⟨_, rfl, World.ownsRow_nil _ _ _ _, hH.out.2.1⟩
        · have z0 : (x == 0) = false := by simp [b0]
          have z1 : decide (2147483647 < x) = false := decide_eq_false b1
          go_wp2_with fail
          go_ret2
          rw [HZZ.out, HRF.out]
          exact ⟨_, rfl, World.ownsRow_nil _ _ _ _, hH.out.2.1⟩
      have HOKX : Hid (∀ j y, j < k + 1 → c[j]? = some y → okZ y = true) := fun j y hj hy => by
        by_cases e : j = k
        · rw [e, hxk] at hy
          injection hy with hy
          rw [← hy]; exact hokx
        · exact hH.out.2.2 j y (by omega) hy
      obtain ⟨hx0, hx1, hx2⟩ : x ≠ 0 ∧ -2147483647 ≤ x ∧ x ≤ 2147483647 := by
        unfold okZ at hokx
        simp at hokx
        omega
      have HSN : Hid (setF (c.take (k + 1)) = insZ x (setF (c.take k))) := setF_snoc hxk
      have hkI : (k : Int) < (m : Int) := by omega
      have hle := setF_le (c.take k)
      rw [List.length_take] at hle
      obtain ⟨L, hL⟩ : ∃ L, L = setF (c.take k) := ⟨_, rfl⟩
      rw [← hL] at hH HSN hle
      obtain ⟨aL, cL, rfl, hLa⟩ := isl hH.out.1
      have HLA : Hid _ := hLa
      obtain ⟨n, hn⟩ : ∃ n, n = L.length := ⟨_, rfl⟩
      have HN : Hid _ := hn
      rw [← hn] at hH hle ⊢
      obtain ⟨wq, ewq⟩ : ∃ wq, wq = wr := ⟨_, rfl⟩
      rw [← ewq] at hH HLA
      rw [← ewq]
      have HI4 : Hid (Is' wq w.heap.size (.slice aL n cL) L) := hH.out.1
      have HB4 : Hid (Below w.heap.size w wq) := hH.out.2.1
      have hwq := HB4.out.size
      have dx : wq.cell? ⟨rc, ro + k, none⟩ = some (.int .i64 x) := keep_cell HB4.out dx0
      have z0 : (x == 0) = false := by simp [hx0]
      have hn1 : n ≤ 100000 := by omega
      clear hxk hL hLa hn ewq hH dx0 hokx
      go_wp2_with fail
      clear dx
      go_loopw [6] (fun i wz => ∃ q : Nat, q ≤ n ∧ i = .int .i64 (q : Int) ∧ Hid ((∀ j y, j < q → L[j]? = some y → y < x) ∧ Below wq.heap.size wq wz)) (fun i wz => n - (intOf i).toNat)
      case atStart => exact ⟨0, Nat.zero_le _, rfl, fun j y hj => by omega, Below.refl _ _⟩
      case round =>
        obtain ⟨q, hq, rfl, hJ⟩ := hrel
        have hbz : Below w.heap.size w wr := HB4.out.trans (hJ.out.2.mono hwq)
        have HBZ : Hid _ := hbz
        have hsz := hbz.size
        have dx : wr.cell? ⟨rc, ro + k, none⟩ = some (.int .i64 x) := keep_cell hbz HDX.out
        have HRZ : Hid (Is' wr w.heap.size (.slice aL n cL) L) := row_kept HI4.out hJ.out.2.block
        clear hbz
        by_cases hqn : q < n
        · obtain ⟨y, hyq⟩ : ∃ y, L[q]? = some y := ⟨_, List.getElem?_eq_getElem (by rw [← HN.out]; exact hqn)⟩
          obtain ⟨rl, rfl, -, hrl, hLi⟩ := HLA.out.resolve_left (fun e => by rw [e] at hyq; simp at hyq)
          have dy : wr.cell? ⟨rl, q, none⟩ = some (.int .i64 y) := by
            have h1 := hLi q (by rw [← HN.out]; exact hqn)
            rw [Nat.zero_add, List.getD_eq_getElem?_getD, hyq] at h1
            exact keep_cell hJ.out.2 h1
          have HYQ : Hid _ := hyq
          have hqI : (q : Int) < (n : Int) := by omega
          have hqd : decide ((q : Int) < (n : Int)) = true := decide_eq_true hqI
          have hrz : rl < wr.heap.size := World.block_lt_of_cell? _ _ dy
          clear hyq hLi hrl
          go_wp2_with fail
          go_quiet (fail)
          obtain ⟨wd, hwd⟩ : ∃ wd, wd = wr.drewN nq := ⟨_, rfl⟩
          rw [← hwd]
          have hbd : Below wr.heap.size wr wd := by rw [hwd]; exact below_drewN (Below.refl _ _) _
          have HBD : Hid (Below wq.heap.size wq wd) := hJ.out.2.trans (hbd.mono hJ.out.2.size)
          have HBW : Hid (Below w.heap.size w wd) := HBZ.out.trans (hbd.mono hsz)
          have dx2 := keep_cell hbd dx
          have dy2 := keep_cell hbd dy
          have HRD : Hid (Is' wd w.heap.size (.slice (some ⟨rl, 0, none⟩) n cL) L) := row_kept HRZ.out hbd.block
          clear hwd hbd dx dy HRZ HBZ
          by_cases hyx : y < x
          · have HNX : Hid (∀ j z, j < q + 1 → L[j]? = some z → z < x) := fun j z hj e => by
              by_cases hjq : j < q
              · exact hJ.out.1 j z hjq e
              · obtain rfl : j = q := by omega
                rw [HYQ.out] at e
                injection e with e
                omega
            have hyd : decide (y < x) = true := decide_eq_true hyx
            go_wp2_with fail
            exact ⟨⟨q + 1, by omega, by go_num, HNX.out, HBD.out⟩, by simp [intOf]; omega⟩
          · have hyd : decide (y < x) = false := decide_eq_false hyx
            have HAT2 : Hid (insZ x L = if L[q]? = some x then L else L.take q ++ x :: L.drop q) := insZ_at hJ.out.1 (by rw [← HN.out]; exact hq) (fun z e => by rw [HYQ.out] at e; injection e with e; rw [← e]; exact hyx)
            by_cases hyx2 : y = x
            · subst hyx2
              have HNE : Hid (setF (c.take (k + 1)) = L) := by
                unfold Hid
                rw [HSN.out, HAT2.out, if_pos HYQ.out]
              have hyd2 : (y == y) = true := by simp
              go_wp2_with fail
              go_quiet (fail)
              obtain ⟨we, hwe⟩ : ∃ we, we = wd.drewN nq := ⟨_, rfl⟩
              rw [← hwe]
              have hbe : Below wd.heap.size wd we := by rw [hwe]; exact below_drewN (Below.refl _ _) _
              have HRE : Hid (Is' we w.heap.size (.slice (some ⟨rl, 0, none⟩) n cL) (setF (c.take (k + 1)))) := by
                unfold Hid
                rw [HNE.out]
                exact row_kept HRD.out hbe.block
              have HBE : Hid (Below w.heap.size w we) := HBW.out.trans (hbe.mono HBW.out.size)
              clear hwe hbe dx2 dy2
              go_wp2_with fail
              exact ⟨⟨k + 1, by omega, by go_num, HRE.out, HBE.out, HOKX.out⟩, by simp [intOf]; omega⟩
            · have HNE : Hid (setF (c.take (k + 1)) = shL L q x) := by
                unfold Hid
                rw [HSN.out, HAT2.out, if_neg (fun e => by rw [HYQ.out] at e; injection e with e; exact hyx2 e)]
                rfl
              have hyd2 : (y == x) = false := by simp [hyx2]
              go_wp2_with fail
              go_quiet (fail)
              obtain ⟨we, hwe⟩ : ∃ we, we = wd.drewN nq := ⟨_, rfl⟩
              rw [← hwe]
              have hbe : Below wd.heap.size wd we := by rw [hwe]; exact below_drewN (Below.refl _ _) _
              have HRE : Hid (Is' we w.heap.size (.slice (some ⟨rl, 0, none⟩) n cL) L) := row_kept HRD.out hbe.block
              have HBE : Hid (Below w.heap.size w we) := HBW.out.trans (hbe.mono HBW.out.size)
              clear hwe hbe dx2 dy2 HRD HBW HBD hrz
              have hwe := HBE.out.size
              go_wp2_with (at_builtin; refine wpList_append_own_at _ rfl _ _ 51 rfl w.heap.size 3 ti _ 1 8 underInts HI.out.1 HI.out.2.1 HI.out.2.2.1 HI.out.2.2.2 rfl (by decide) _ _ _ rfl (row_kept HRE.out (fun _ hq => heap_alloc_old _ _ hq)) ⟨we.heap.size, 0, none⟩ 1 1 [_] rfl rfl (cell_one_new _ _ _) (fun u hu => by rw [List.mem_singleton.1 hu]; rfl) (by rw [← HN.out]; unfold maxLen; omega) (by rw [← HN.out]; omega) (by simp; omega) ?_; intro v1 w3 hown hgrow hnil hat; rw [← HN.out] at hown; obtain ⟨r1, cap1, rfl⟩ := app_slice hown)
              have HI3 : Hid (Is' w3 w.heap.size (.slice (some ⟨r1, 0, none⟩) (n + 1) cap1) (L ++ [0])) := by
                unfold Hid Is'
                rw [List.length_append, List.map_append, ← HN.out]
                exact hown
              have HB3 : Hid (Below w.heap.size w w3) := low_grown HBE.out hwe hgrow (fun z hz => (World.ownsRow.lt HRE.out z hz).1)
              have hw3 := HB3.out.size
              have HI5 : Hid (Is' w3 w.heap.size (.slice (some ⟨r1, 0, none⟩) (n + 1) cap1) (shL L n 0)) := by
                unfold Hid
                have e := sh_start L 0
                rw [← HN.out] at e
                rw [← e]
                exact HI3.out
              clear hown hgrow hnil hat HI3 HRE HBE hwe
              go_loopw [7] (fun i wz => ∃ j : Nat, q ≤ j ∧ j ≤ n ∧ i = .int .i64 (j : Int) ∧ Hid ((∃ y, Is' wz w.heap.size (.slice (some ⟨r1, 0, none⟩) (n + 1) cap1) (shL L j y)) ∧ Below w.heap.size w wz)) (fun i wz => (intOf i).toNat)
              case atStart => exact ⟨n, hq, Nat.le_refl _, by go_num, ⟨0, HI5.out⟩, HB3.out⟩
              case round =>
                obtain ⟨j, hj1, hj2, rfl, hG⟩ := hrel
                obtain ⟨y3, hG3⟩ := hG.out.1
                have hbg := hG.out.2
                have hrg : r1 < wr.heap.size := (World.ownsRow.lt hG3 r1 rfl).2
                by_cases hjq : q < j
                · obtain ⟨j', rfl⟩ : ∃ j', j = j' + 1 := ⟨j - 1, by omega⟩
                  obtain ⟨z, hz⟩ : ∃ z, L[j']? = some z := ⟨_, List.getElem?_eq_getElem (by rw [← HN.out]; omega)⟩
                  have hln := shL_len (L := L) y3 (show j' + 1 ≤ L.length by rw [← HN.out]; omega)
                  obtain ⟨r5, cap5, ev5, -, -, hLi5⟩ := hG3.li (fun e => by rw [e] at hln; simp at hln)
                  injection ev5 with ev5
                  injection ev5 with ev5
                  injection ev5 with ev5
                  subst ev5
                  have g1 : wr.cell? ⟨r1, j', none⟩ = some (.int .i64 z) := by
                    have h1 := hLi5 j' (by rw [hln]; rw [← HN.out]; omega)
                    rw [Nat.zero_add, sh_get hz] at h1
                    exact h1
                  obtain ⟨⟨u5, g2⟩, g3, g4⟩ := hG3.put (j := j' + 1) (by rw [hln, ← HN.out]; omega)
                  have HG4 : Hid (Is' (wr.setCell ⟨r1, j' + 1, none⟩ (.int .i64 z)) w.heap.size (.slice (some ⟨r1, 0, none⟩) (n + 1) cap1) (shL L j' z) ∧ Below w.heap.size w (wr.setCell ⟨r1, j' + 1, none⟩ (.int .i64 z))) := by
                    obtain ⟨k1, k2⟩ := g4 z
                    rw [sh_step hz] at k1
                    exact ⟨k1, hbg.trans k2⟩
                  have hjI : (q : Int) < ((j' : Int) + 1) := by omega
                  have hjn : (j' : Int) < (n : Int) := by omega
                  clear hz hLi5 g4 hG3 hln
                  go_wp2_with fail
                  exact ⟨⟨j', by omega, by omega, by go_num, ⟨z, HG4.out.1⟩, HG4.out.2⟩, by first | (simp [intOf]; done) | (simp [intOf]; omega)⟩
                · obtain rfl : j = q := by omega
                  have hjI : ¬ (j : Int) < (j : Int) := by omega
                  have hln := shL_len (L := L) y3 (show j ≤ L.length by rw [← HN.out]; omega)
                  obtain ⟨⟨u5, g2⟩, g3, g4⟩ := hG3.put (j := j) (by rw [hln, ← HN.out]; omega)
                  have g1 : wr.cell? ⟨rc, ro + k, none⟩ = some (.int .i64 x) := keep_cell hbg HDX.out
                  have HG4 : Hid (Is' (wr.setCell ⟨r1, j, none⟩ (.int .i64 x)) w.heap.size (.slice (some ⟨r1, 0, none⟩) (n + 1) cap1) (setF (c.take (k + 1))) ∧ Below w.heap.size w (wr.setCell ⟨r1, j, none⟩ (.int .i64 x))) := by
                    obtain ⟨k1, k2⟩ := g4 x
                    rw [sh_put y3 x (by rw [← HN.out]; omega)] at k1
                    rw [HNE.out]
                    exact ⟨k1, hbg.trans k2⟩
                  have hjn : (j : Int) < (n : Int) + 1 := by omega
                  clear g4 hG3 hln
                  go_wp2_with fail
                  exact ⟨⟨k + 1, by omega, by go_num, HG4.out.1, HG4.out.2, HOKX.out⟩, by simp [intOf]; omega⟩
        · obtain rfl : q = n := by omega
          have hqI : ¬ (q : Int) < (q : Int) := by omega
          have hqd : decide ((q : Int) < (q : Int)) = false := decide_eq_false hqI
          have HNE : Hid (setF (c.take (k + 1)) = shL L q x) := by
            unfold Hid
            rw [HSN.out, insZ_at (k := q) hJ.out.1 (by rw [← HN.out]; exact Nat.le_refl _) (fun z e => by rw [List.getElem?_eq_none (by rw [← HN.out]; exact Nat.le_refl _)] at e; cases e), if_neg (fun e => by rw [List.getElem?_eq_none (by rw [← HN.out]; exact Nat.le_refl _)] at e; cases e)]
            rfl
          have HNQ : Hid (q ≤ q) := Nat.le_refl _
          go_wp2_with fail
          go_quiet (fail)
          obtain ⟨wd, hwd⟩ : ∃ wd, wd = wr.drewN nq := ⟨_, rfl⟩
          rw [← hwd]
          have hbd : Below wr.heap.size wr wd := by rw [hwd]; exact below_drewN (Below.refl _ _) _
          have HBW : Hid (Below w.heap.size w wd) := HBZ.out.trans (hbd.mono hsz)
          have HRD : Hid (Is' wd w.heap.size (.slice aL q cL) L) := row_kept HRZ.out hbd.block
          clear hwd hbd dx HRZ HBZ
          go_wp2_with fail
          go_quiet (fail)
          obtain ⟨we, hwe⟩ : ∃ we, we = wd.drewN nq := ⟨_, rfl⟩
          rw [← hwe]
          have hbe : Below wd.heap.size wd we := by rw [hwe]; exact below_drewN (Below.refl _ _) _
          have HRE : Hid (Is' we w.heap.size (.slice aL q cL) L) := row_kept HRD.out hbe.block
          have HBE : Hid (Below w.heap.size w we) := HBW.out.trans (hbe.mono HBW.out.size)
          clear hwe hbe HRD HBW hqd
          have hwe := HBE.out.size
          go_wp2_with (at_builtin; refine wpList_append_own_at _ rfl _ _ 51 rfl w.heap.size 3 ti _ 1 8 underInts HI.out.1 HI.out.2.1 HI.out.2.2.1 HI.out.2.2.2 rfl (by decide) _ _ _ rfl (row_kept HRE.out (fun _ hq => heap_alloc_old _ _ hq)) ⟨we.heap.size, 0, none⟩ 1 1 [_] rfl rfl (cell_one_new _ _ _) (fun u hu => by rw [List.mem_singleton.1 hu]; rfl) (by rw [← HN.out]; unfold maxLen; omega) (by rw [← HN.out]; omega) (by simp; omega) ?_; intro v1 w3 hown hgrow hnil hat; rw [← HN.out] at hown; obtain ⟨r1, cap1, rfl⟩ := app_slice hown)
          have HI3 : Hid (Is' w3 w.heap.size (.slice (some ⟨r1, 0, none⟩) (q + 1) cap1) (L ++ [0])) := by
            unfold Hid Is'
            rw [List.length_append, List.map_append, ← HN.out]
            exact hown
          have HB3 : Hid (Below w.heap.size w w3) := low_grown HBE.out hwe hgrow (fun z hz => (World.ownsRow.lt HRE.out z hz).1)
          have hw3 := HB3.out.size
          have HI5 : Hid (Is' w3 w.heap.size (.slice (some ⟨r1, 0, none⟩) (q + 1) cap1) (shL L q 0)) := by
            unfold Hid
            have e := sh_start L 0
            rw [← HN.out] at e
            rw [← e]
            exact HI3.out
          clear hown hgrow hnil hat HI3 HRE HBE hwe
          go_loopw [7] (fun i wz => ∃ j : Nat, q ≤ j ∧ j ≤ q ∧ i = .int .i64 (j : Int) ∧ Hid ((∃ y, Is' wz w.heap.size (.slice (some ⟨r1, 0, none⟩) (q + 1) cap1) (shL L j y)) ∧ Below w.heap.size w wz)) (fun i wz => (intOf i).toNat)
          case atStart => exact ⟨q, hq, Nat.le_refl _, by go_num, ⟨0, HI5.out⟩, HB3.out⟩
          case round =>
            obtain ⟨j, hj1, hj2, rfl, hG⟩ := hrel
            obtain ⟨y3, hG3⟩ := hG.out.1
            have hbg := hG.out.2
            have hrg : r1 < wr.heap.size := (World.ownsRow.lt hG3 r1 rfl).2
            by_cases hjq : q < j
            · omega
            · obtain rfl : j = q := by omega
              have hjI : ¬ (j : Int) < (j : Int) := by omega
              have hln := shL_len (L := L) y3 (show j ≤ L.length by rw [← HN.out]; omega)
              obtain ⟨⟨u5, g2⟩, g3, g4⟩ := hG3.put (j := j) (by rw [hln, ← HN.out]; omega)
              have g1 : wr.cell? ⟨rc, ro + k, none⟩ = some (.int .i64 x) := keep_cell hbg HDX.out
              have HG4 : Hid (Is' (wr.setCell ⟨r1, j, none⟩ (.int .i64 x)) w.heap.size (.slice (some ⟨r1, 0, none⟩) (j + 1) cap1) (setF (c.take (k + 1))) ∧ Below w.heap.size w (wr.setCell ⟨r1, j, none⟩ (.int .i64 x))) := by
                obtain ⟨k1, k2⟩ := g4 x
                rw [sh_put y3 x (by rw [← HN.out]; omega)] at k1
                rw [HNE.out]
                exact ⟨k1, hbg.trans k2⟩
              have hjn : (j : Int) < (j : Int) + 1 := by omega
              clear g4 hG3 hln
              go_wp2_with fail
              exact ⟨⟨k + 1, by omega, by go_num, HG4.out.1, HG4.out.2, HOKX.out⟩, by simp [intOf]; omega⟩
    · obtain rfl : k = m := by omega
      have hkI : ¬ (k : Int) < (k : Int) := by omega
      have hH2 := hH.out
      rw [HM.out, List.take_length] at hH2
      have HH2 : Hid _ := hH2
      have HRT : Hid (R = true) := by
        unfold Hid
        rw [HR.out, List.all_eq_true]
        intro y hy
        obtain ⟨j, hj, rfl⟩ := List.getElem_of_mem hy
        exact hH.out.2.2 j _ (by rw [HM.out]; exact hj) (List.getElem?_eq_getElem hj)
      go_wp2_with fail
      go_ret2
      rw [HZZ.out, HRT.out]
      exact ⟨_, rfl, HH2.out.1, HH2.out.2.1⟩
end Go.Proofs.Ythdgmkjjpmigeaa
