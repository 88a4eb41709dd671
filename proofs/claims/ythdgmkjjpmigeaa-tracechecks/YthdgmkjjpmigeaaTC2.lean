/- Contracts (the document's clauses): Trim. -/
import Derived.Test.YthdgmkjjpmigeaaTC1
import Derived.Test.YthdgmkjjpmigeaaTP4
namespace Go.Proofs.Ythdgmkjjpmigeaa
open Go.RowKit
set_option linter.unusedSimpArgs false
set_option linter.unusedVariables false

/-- What is kept can be written. -/
theorem kept_num {g : Nat} {L : List (List Int)} (hA : Ahd g L) (h0 : 0 < L.length) (hb : g + L.length ≤ 2147483647) : ∀ s ∈ (kpS g L (nedS g L L.length) L.length).2, ∀ x ∈ s, 0 ≤ x ∧ x ≤ 2147483647 := by
  have hN := nd_of h0 hA L.length (Nat.le_refl _)
  rw [(kpS_eq hA hN L.length (Nat.le_refl _)).1]
  refine ahd_num (kp_ahd hA hN) ?_
  have : (kp g L (nedS g L L.length) L.length).length ≤ L.length := by unfold kp; rw [List.length_map]; exact cn_le _ _
  omega
theorem mapt {f : Int → Int} {F : List Int} {j : Nat} {x : Int} (h : F[j]? = some x) : (F.take (j + 1)).map f = (F.take j).map f ++ [f x] := by rw [List.take_add_one, h]; simp
/-- The first j numbers of a step, new. -/
def rnT (g : Nat) (R F : List Int) (j : Nat) : List Int := (F.take j).map (rn1 g R)
theorem rnT_step {g : Nat} {R F : List Int} {j : Nat} {x : Int} (h : F[j]? = some x) : rnT g R F (j + 1) = rnT g R F j ++ [rn1 g R x] := mapt h
theorem rnT_len {g : Nat} {R F : List Int} {j : Nat} (h : j ≤ F.length) : (rnT g R F j).length = j := by unfold rnT; rw [List.length_map, List.length_take]; omega
theorem rnT_end (g : Nat) (R F : List Int) : rnT g R F F.length = F.map (rn1 g R) := by unfold rnT; rw [List.take_length]
set_option maxRecDepth 20000 in
set_option maxHeartbeats 25600000 in
theorem rtrim_any {w : World} {vg vb : Value} {G : List (List Int)} {b : List Int} (hG : Lr w vg G) (hb : Br w vb b) (gG : G.length + (G.map List.length).sum ≤ 2000) (gb : b.length ≤ 6000) :
    Calls Try.prog 24 #[vg, vb] w fun ev w' => ∃ v', ev = .returned (.tuple #[v', .int .i64 (trmF G b).2]) ∧ Br w' v' (trmF G b).1 ∧ Below w.heap.size w w' := by
  obtain ⟨ti, ht0, hz0, hz1, hz2⟩ := info_any infoList
  have HI : Hid _ := (⟨ht0, hz0, hz1, hz2⟩ : Try.prog.info? 51 = some ti ∧ ti.zero = _ ∧ ti.size = 1 ∧ ti.bytes = 24)
  obtain ⟨tj, jt0, jz0, jz1, jz2⟩ := info_any infoInt
  have HJ : Hid _ := (⟨jt0, jz0, jz1, jz2⟩ : Try.prog.info? 3 = some tj ∧ tj.zero = _ ∧ tj.size = 1 ∧ tj.bytes = 8)
  clear ht0 hz0 hz1 hz2 jt0 jz0 jz1 jz2
  have HMB : Hid (∀ (n : Nat), n ≤ 2000 → ∀ wx, (Instr.makeSlice 55 (.int .i64 (n : Int)) (.int .i64 (n : Int))).run Try.prog wx = .ok (.slice (some ⟨wx.heap.size, 0, none⟩) n n) (wx.alloc (.cells (madeCells #[.bool false] n) 4))) := fun n hn wx => run_make_row' (P := Try.prog) 55 4 (.bool false) 1 underBools infoBool rfl .i64 .i64 n (by omega) (by omega) wx
  have HMI : Hid (∀ (m : Nat), m ≤ 2000 → ∀ wx, (Instr.makeSlice 51 (.int .i64 (m : Int)) (.int .i64 (m : Int))).run Try.prog wx = .ok (.slice (some ⟨wx.heap.size, 0, none⟩) m m) (wx.alloc (.cells (madeCells #[.int .i64 0] m) 3))) := fun m hm wx => run_make_row' (P := Try.prog) 51 3 (.int .i64 0) 8 underInts infoInt rfl .i64 .i64 m (by omega) (by omega) wx
  have HCK : Hid _ := rcheck_any hG hb gG gb
  have HBV : Hid (Br w vb b) := hb
  obtain ⟨Z, hZ⟩ : ∃ Z, Z = trmF G b := ⟨_, rfl⟩
  rw [← hZ]
  have HAH : Hid ((rfF G b).2 = 0 → Ahd G.length (rfF G b).1 ∧ 0 < (rfF G b).1.length ∧ (rfF G b).1 = (decF b).1) := rfF_ahd
  have HDL : Hid ((decF b).1.length + ((decF b).1.map List.length).sum ≤ 2000) := by have := decF_len b; unfold Hid; omega
  have HZ1 : Hid (Z = if (rfF G b).2 ≠ 0 then ([], (rfF G b).2) else encF (kpS G.length (rfF G b).1 (nedS G.length (rfF G b).1 (rfF G b).1.length) (rfF G b).1.length).2) := by
    unfold Hid; rw [hZ]; rfl
  obtain ⟨e, he⟩ : ∃ e, e = chkF G b := ⟨_, rfl⟩
  rw [← he] at HCK
  have HEE : Hid (e = (rfF G b).2) := he
  obtain ⟨ag, cg, rfl⟩ := hG.out
  obtain ⟨ab, cb, rfl, -⟩ := hb.out
  obtain ⟨g, hng⟩ : ∃ n, n = G.length := ⟨_, rfl⟩
  obtain ⟨nb, hnb⟩ : ∃ n, n = b.length := ⟨_, rfl⟩
  have hg : g ≤ 2000 := by omega
  rw [← hng] at HCK HAH HZ1 ⊢
  rw [← hnb] at HCK HBV ⊢
  have HBN : Hid (b.length ≤ 6000) := gb
  clear hG hb gG gb hZ hng hnb he
  go_enter Try.func24, Try.ntmps24
  go_wp2_with fail
  refine Calls.mono HCK.out ?_
  rintro ev w1 ⟨rfl, hb1⟩
  have HB1 : Hid (Below w.heap.size w w1) := hb1
  clear hb1 HCK
  by_cases he : e = 0
  rotate_left
  · have HZZ : Hid (Z = ([], e)) := by unfold Hid; rw [HZ1.out, ← HEE.out, if_pos he]
    have heb : (e == 0) = false := by simp [he]
    have hec : (e != 0) = true := by simp [he]
    go_wp2_with fail
    go_ret2
    rw [HZZ.out]
    exact ⟨_, rfl, ⟨⟨_, _, rfl, Nat.zero_le _, Or.inl rfl⟩, fun x hx => (by simp at hx)⟩, HB1.out⟩
  subst he
  obtain ⟨hA, h0, hD⟩ := HAH.out HEE.out.symm
  obtain ⟨L, hL⟩ : ∃ L, L = (rfF G b).1 := ⟨_, rfl⟩
  rw [← hL] at hA h0 hD HZ1
  rw [← HEE.out, if_neg (by decide)] at HZ1
  obtain ⟨n, hn⟩ : ∃ n, n = L.length := ⟨_, rfl⟩
  rw [← hn] at HZ1 h0
  have HN : Hid (n = L.length) := hn
  have HSU : Hid (L.length + (L.map List.length).sum ≤ 2000) := by unfold Hid; rw [hD]; exact HDL.out
  have hnb2 : n ≤ 2000 := by have := HSU.out; omega
  have HFL : Hid (∀ F ∈ L, F.length ≤ 2000) := fun F hF => by have := len_sum hF; have := HSU.out; omega
  have HAD : Hid (Ahd g L) := hA
  have HZ0 : Hid (Z.2 = 0) := by
    unfold Hid; rw [HZ1.out]
    have := kept_num hA (by rw [← hn]; exact h0) (by omega)
    rw [← hn] at this
    exact enc_ok this
  have HDE : Hid (∀ wx, Below w.heap.size w wx → Calls Try.prog 16 #[.slice ab nb cb] wx fun ev w' => ∃ v' x', ev = .returned (.tuple #[v', .int .i64 x']) ∧ Lr w' v' L ∧ Below wx.heap.size wx w') := by
    intro wx hbx
    have h9 := rdecode_any (HBV.out.below hbx) (by have := HBN.out; omega)
    rw [dec_same HBV.out.byte (by have := HBN.out; omega)] at h9
    refine Calls.mono h9 ?_
    rintro ev w' ⟨v', h1, h2, h3⟩
    rw [← hD] at h2
    exact ⟨v', _, h1, h2, h3⟩
  have HKW : Hid (∀ c ∈ (kpS g L (nedS g L n) n).2, ∀ y ∈ c, w64 y) := by
    have := kept_num hA (by rw [← hn]; exact h0) (by omega)
    rw [← hn] at this
    exact fun c hc y hy => by have := this c hc y hy; unfold w64; omega
  clear hA hD hL hn HAH HDL HEE HBV HBN
  go_wp2_with fail
  refine Calls.mono (HDE.out w1 HB1.out) ?_
  rintro ev w2 ⟨v2, x2, rfl, hL2, hb2⟩
  have HB2 : Hid (Below w.heap.size w w2) := HB1.out.trans (hb2.mono HB1.out.size)
  obtain ⟨a, c, rfl⟩ := hL2.slice' (n := n) HN.out.symm
  have HL : Hid (Lr w2 (.slice a n c) L) := hL2
  clear hL2 hb2 HDE HB1
  obtain ⟨T, hT⟩ : ∃ T, T = w2.heap.size := ⟨_, rfl⟩
  obtain ⟨w3, hw3⟩ : ∃ w1, w1 = w2.alloc (.cells (madeCells #[.bool false] n) 4) := ⟨_, rfl⟩
  have hmk1 : (Instr.makeSlice 55 (.int .i64 (n : Int)) (.int .i64 (n : Int))).run Try.prog w2 = .ok (.slice (some ⟨T, 0, none⟩) n n) w3 := by rw [hT, hw3]; exact HMB.out n hnb2 w2
  have hB1 : Bo w3 w2.heap.size (.slice (some ⟨T, 0, none⟩) n n) (List.replicate n false) := by rw [hT, hw3]; exact Bo.made w2 (by omega)
  have hb1 : Below w2.heap.size w2 w3 := by rw [hw3]; go_grown
  obtain ⟨hc1, hf1, hp1⟩ := hB1.put (j := n - 1) (by simp; omega)
  have HP1 : Hid (Bo (w3.setCell ⟨T, n - 1, none⟩ (.bool true)) w2.heap.size (.slice (some ⟨T, 0, none⟩) n n) (nedS g L 0) ∧ Below w2.heap.size w2 (w3.setCell ⟨T, n - 1, none⟩ (.bool true))) := by
    obtain ⟨p1, p2⟩ := hp1 true
    refine ⟨?_, hb1.trans p2⟩
    unfold nedS
    rw [← HN.out]; exact p1
  have hlast : (n : Int) - 1 = ((n - 1 : Nat) : Int) := by omega
  obtain ⟨l1, hl1⟩ : ∃ l, l = n - 1 := ⟨_, rfl⟩
  rw [← hl1] at hc1 hf1 HP1 hlast
  have hl1n : l1 < n := by omega
  have HL1 : Hid (l1 = n - 1) := hl1
  have hl1I : (l1 : Int) < (n : Int) := by omega
  clear hT hw3 hB1 hb1 hp1 hl1
  go_wp2_with fail
  go_loopw [11] (fun i wr => ∃ (k : Nat) (x : Int), k ≤ n ∧ x + (k : Int) = (l1 : Int) ∧ i = .int .i64 x ∧ Hid (Bo wr w2.heap.size (.slice (some ⟨T, 0, none⟩) n n) (nedS g L k) ∧ Below w2.heap.size w2 wr)) (fun i wr => (intOf i + 1).toNat)
  case atStart => exact ⟨0, (l1 : Int), Nat.zero_le _, by omega, rfl, HP1.out⟩
  case round =>
    obtain ⟨k, x, hk, hxk, rfl, hH⟩ := hrel
    by_cases hlt : k < n
    · obtain ⟨q, hq⟩ : ∃ q, q = l1 - k := ⟨_, rfl⟩
      obtain rfl : x = (q : Int) := by have := HL1.out; omega
      have hq0 : (0 : Int) ≤ (q : Int) := by omega
      have hqn : q < n := by omega
      have hqI : (q : Int) < (n : Int) := by omega
      have HQ : Hid (q = L.length - 1 - k) := by unfold Hid; rw [← HN.out, ← HL1.out]; exact hq
      obtain ⟨F, hF⟩ : ∃ F, L[q]? = some F := ⟨_, List.getElem?_eq_getElem (by rw [← HN.out]; exact hqn)⟩
      have HFB := HFL.out F (List.mem_of_getElem? hF)
      obtain ⟨r, o, u, rfl, hcu, hSu⟩ := (HL.out.below hH.out.2).at' hF
      have HSW : Hid (Sr w2 u F) := HL.out.old hF hH.out.2 hcu
      have HRL : Hid (r < w2.heap.size ∧ w2.cell? ⟨r, o + q, none⟩ = some u) := by
        obtain ⟨r', o', u', e1, e2, e3⟩ := HL.out.at' hF
        injection e1 with e1
        injection e1 with e1 e4
        subst e1 e4
        have h8 := bel_cell hH.out.2 (World.block_lt_of_cell? _ _ e2) e2
        rw [h8] at hcu
        injection hcu with hcu
        rw [← hcu]
        exact ⟨World.block_lt_of_cell? _ _ e2, e2⟩
      obtain ⟨au, cu, hue⟩ := hSu.out
      obtain ⟨nu, hnu⟩ : ∃ n, n = F.length := ⟨_, rfl⟩
      rw [← hnu] at hue HFB
      have HNU : Hid _ := hnu
      subst hue
      have hro : r < wr.heap.size := World.block_lt_of_cell? _ _ hcu
      obtain ⟨hcq, -, -⟩ := hH.out.1.put (j := q) (by rw [nedS_len, ← HN.out]; exact hqn)
      obtain ⟨b, hb⟩ : ∃ b, b = (nedS g L k).getD q false := ⟨_, rfl⟩
      rw [← hb] at hcq
      have HBT : Hid (b = (nedS g L k).getD q false) := hb
      have HFq : Hid (L[q]? = some F) := hF
      have HAF : Hid (∀ x ∈ F, 0 ≤ x ∧ x < (g : Int) + (q : Int)) := HAD.out q F hF
      have HNX : Hid (nedS g L (k + 1) = if b then mark g (nedS g L k) F else nedS g L k) := by
        unfold Hid
        rw [nedS, ← HQ.out, ← hb, List.getD_eq_getElem?_getD, hF]; rfl
      clear hF hSu hnu hb hq
      cases b with
      | false =>
        have HN1 : Hid (nedS g L (k + 1) = nedS g L k) := HNX.out
        obtain ⟨wQ, hwQ⟩ : ∃ wQ, wQ = wr := ⟨_, rfl⟩
        subst hwQ
        go_wp2_with fail
        go_loopw [12] (fun i wr => i = .int .i64 0 ∧ wQ = wr) (fun i wr => 0)
        case atStart => exact ⟨rfl, rfl⟩
        case round =>
          obtain ⟨rfl, rfl⟩ := hrel
          go_wp2_with fail
          refine ⟨⟨k + 1, (q : Int) - 1, by omega, by omega, by go_num, by rw [HN1.out]; exact hH.out.1, hH.out.2⟩, by simp [intOf]⟩
      | true =>
        have HN1 : Hid (nedS g L (k + 1) = mark g (nedS g L k) F) := HNX.out
        obtain ⟨wQ, hwQ⟩ : ∃ wQ, wQ = wr := ⟨_, rfl⟩
        subst hwQ
        go_wp2_with fail
        go_loopw [12] (fun i wr => ∃ j : Nat, j ≤ nu ∧ i = .int .i64 (j : Int) ∧ Hid (Bo wr w2.heap.size (.slice (some ⟨T, 0, none⟩) n n) (mark g (nedS g L k) (F.take j)) ∧ Below w2.heap.size w2 wr)) (fun i wr => nu - (intOf i).toNat)
        case atStart => exact ⟨0, Nat.zero_le _, rfl, hH.out⟩
        case round =>
          obtain ⟨j, hj, rfl, hJ⟩ := hrel
          obtain ⟨hcq2, -, -⟩ := hJ.out.1.put (j := q) (by rw [mark_len, nedS_len, ← HN.out]; exact hqn)
          rw [mark_mono g _ _ q HBT.out.symm] at hcq2
          have hcu2 : wr.cell? ⟨r, o + q, none⟩ = some (.slice au nu cu) := bel_cell hJ.out.2 HRL.out.1 HRL.out.2
          have hro2 : r < wr.heap.size := World.block_lt_of_cell? _ _ hcu2
          by_cases hlt2 : j < nu
          · have hltJ : (j : Int) < (nu : Int) := by omega
            have hjl : j < F.length := by rw [← HNU.out]; exact hlt2
            obtain ⟨r2, o2, rfl, hcj⟩ := HSW.out.at' hJ.out.2 hjl
            have hr2 : r2 < wr.heap.size := World.block_lt_of_cell? _ _ hcj
            obtain ⟨hx0, hx1⟩ := HAF.out _ (getD_in hjl)
            have HMT : Hid _ := mark_take (g := g) (nd := nedS g L k) (at_getD hjl)
            obtain ⟨x, hx⟩ : ∃ x : Nat, F.getD j 0 = (x : Int) := ⟨(F.getD j 0).toNat, by omega⟩
            rw [hx] at hcj hx0 hx1 HMT
            clear hx hjl
            by_cases hge : g ≤ x
            · have hgeI : (g : Int) ≤ (x : Int) := by omega
              obtain ⟨y, hy⟩ : ∃ y, y = x - g := ⟨_, rfl⟩
              have hyI : (x : Int) - (g : Int) = (y : Int) := by omega
              have hyn : y < n := by omega
              have hynI : (y : Int) < (n : Int) := by omega
              obtain ⟨hcy, hfy, hpy⟩ := hJ.out.1.put (j := y) (by rw [mark_len, nedS_len, ← HN.out]; exact hyn)
              have HE : Hid (Bo (wr.setCell ⟨T, y, none⟩ (.bool true)) w2.heap.size (.slice (some ⟨T, 0, none⟩) n n) (mark g (nedS g L k) (F.take (j + 1))) ∧ Below w2.heap.size w2 (wr.setCell ⟨T, y, none⟩ (.bool true))) := by
                obtain ⟨p1, p2⟩ := hpy true
                refine ⟨?_, hJ.out.2.trans p2⟩
                rw [HMT.out]
                unfold mark1
                rw [if_pos hgeI, hyI, Int.toNat_natCast]; exact p1
              clear hpy hy
              go_wp2_with fail
              refine ⟨⟨j + 1, by omega, by go_num, HE.out⟩, by simp [intOf]; omega⟩
            · have hgeI : ¬ (g : Int) ≤ (x : Int) := by omega
              have HE : Hid (mark g (nedS g L k) (F.take (j + 1)) = mark g (nedS g L k) (F.take j)) := by
                unfold Hid
                rw [HMT.out]
                unfold mark1
                rw [if_neg hgeI]
              go_wp2_with fail
              refine ⟨⟨j + 1, by omega, by go_num, by rw [HE.out]; exact hJ.out.1, hJ.out.2⟩, by simp [intOf]; omega⟩
          · obtain rfl : j = nu := by omega
            have hltJ : ¬ (j : Int) < (j : Int) := by omega
            have HE : Hid (Bo wr w2.heap.size (.slice (some ⟨T, 0, none⟩) n n) (nedS g L (k + 1)) ∧ Below w2.heap.size w2 wr) := by
              refine ⟨?_, hJ.out.2⟩
              have := hJ.out.1
              rw [HNU.out, List.take_length] at this
              rw [HN1.out]; exact this
            go_wp2_with fail
            refine ⟨⟨k + 1, (q : Int) - 1, by omega, by omega, by go_num, HE.out⟩, by simp [intOf]⟩
    · obtain rfl : k = n := by omega
      obtain rfl : x = -1 := by have := HL1.out; omega
      obtain ⟨wA, hwA⟩ : ∃ wA, wA = wr := ⟨_, rfl⟩
      subst hwA
      obtain ⟨nd, hnd⟩ : ∃ nd, nd = nedS g L k := ⟨_, rfl⟩
      have HAT : Hid ((∀ j, j < k → wA.cell? ⟨T, j, none⟩ = some (.bool (nd.getD j false))) ∧ T < wA.heap.size ∧ Below w.heap.size w wA ∧ Lr wA (.slice a k c) L) := by
        rw [← hnd] at hH
        exact ⟨fun j hj => (hH.out.1.put (j := j) (by rw [hnd, nedS_len, ← HN.out]; exact hj)).1, (World.ownsRow.lt hH.out.1.row T rfl).2, HB2.out.trans (hH.out.2.mono HB2.out.size), HL.out.below hH.out.2⟩
      have HZ2 : Hid (Z = encF (kpS g L nd k).2) := by unfold Hid; rw [HZ1.out, hnd]
      rw [← hnd] at HKW
      obtain ⟨X, hX⟩ : ∃ X, X = wA.heap.size := ⟨_, rfl⟩
      obtain ⟨w4, hw4⟩ : ∃ w1, w1 = wA.alloc (.cells (madeCells #[.int .i64 0] k) 3) := ⟨_, rfl⟩
      have hmk2 : (Instr.makeSlice 51 (.int .i64 (k : Int)) (.int .i64 (k : Int))).run Try.prog wA = .ok (.slice (some ⟨X, 0, none⟩) k k) w4 := by rw [hX, hw4]; exact HMI.out k hnb2 wA
      have HR1 : Hid (Is' w4 wA.heap.size (.slice (some ⟨X, 0, none⟩) k k) (List.replicate k 0) ∧ Below wA.heap.size wA w4) := by
        refine ⟨by rw [hX, hw4]; exact Is'.made wA (by omega), by rw [hw4]; go_grown⟩
      have HX : Hid (wA.heap.size ≤ X) := by unfold Hid; omega
      clear hH hnd hX hw4 HZ1 HP1 hmk1 hc1 hf1 hxk HMB HMI
      go_wp2_with fail
      clear hmk2
      go_loopw [14, 15] (fun q i wr => ∃ m : Nat, m ≤ k ∧ i = .int .i64 (m : Int) ∧ Hid (Ge X 51 wr wA.heap.size q (kpS g L nd m).2 ∧ Is' wr wA.heap.size (.slice (some ⟨X, 0, none⟩) k k) (kpS g L nd m).1 ∧ Below wA.heap.size wA wr)) (fun q i wr => k - (intOf i).toNat)
      case atStart => exact ⟨0, Nat.zero_le _, rfl, Ge.nil _ _ _ _, by unfold kpS; rw [← HN.out]; exact HR1.out.1, HR1.out.2⟩
      case round =>
        obtain ⟨m, hm, rfl, hM⟩ := hrel
        obtain ⟨q, hqq⟩ : ∃ q, q = u14 := ⟨_, rfl⟩
        rw [← hqq] at hM ⊢
        clear hqq
        obtain ⟨aq, cq, hq⟩ := hM.out.1.sl
        obtain ⟨nq, hnq⟩ : ∃ n, n = (kpS g L nd m).2.length := ⟨_, rfl⟩
        rw [← hnq] at hq
        have hnqb : nq ≤ 2000 := by have := (kpS_len g L nd m).2; omega
        have HNQ : Hid _ := hnq
        subst hq
        have hz0 := hM.out.2.2.size
        clear hnq
        by_cases hlt : m < k
        rotate_left
        · obtain rfl : m = k := by omega
          have hltI : ¬ (m : Int) < (m : Int) := by omega
          have HE : Hid (Lr wr (.slice aq nq cq) (kpS g L nd m).2 ∧ Below w.heap.size w wr) := ⟨hM.out.1.lr, HAT.out.2.2.1.trans (hM.out.2.2.mono HAT.out.2.2.1.size)⟩
          have HEN : Hid _ := rencode_any HE.out.1 (by
            have h1 := kpS_sum g L nd m (by rw [HN.out]; exact Nat.le_refl _)
            have h2 := sum_le (C := L) m
            have := HSU.out
            have := HN.out
            omega) HKW.out
          rw [← HZ2.out] at HEN
          go_wp2_with fail
          refine Calls.mono HEN.out ?_
          rintro ev w6 ⟨v6, rfl, hB6, hb6⟩
          have HE6 : Hid (Br w6 v6 Z.1 ∧ Below w.heap.size w w6) := ⟨hB6, HE.out.2.trans (hb6.mono HE.out.2.size)⟩
          clear hB6 hb6 HEN
          go_wp2_with fail
          go_ret2
          rw [HZ0.out]
          exact ⟨_, rfl, HE6.out.1, HE6.out.2⟩
        have hltI : (m : Int) < (k : Int) := by omega
        obtain ⟨F, hF⟩ : ∃ F, L[m]? = some F := ⟨_, List.getElem?_eq_getElem (by rw [← HN.out]; exact hlt)⟩
        have hFb := HFL.out F (List.mem_of_getElem? hF)
        have HCU : Hid (∃ r o u, a = some ⟨r, o, none⟩ ∧ r < wA.heap.size ∧ wA.cell? ⟨r, o + m, none⟩ = some u ∧ Sr wA u F) := by
          obtain ⟨r, o, u, e1, e2, e3⟩ := HAT.out.2.2.2.at' hF
          exact ⟨r, o, u, e1, World.block_lt_of_cell? _ _ e2, e2, e3⟩
        obtain ⟨r, o, u, rfl, hrA, hcA, hSA⟩ := HCU.out
        obtain ⟨au, cu, hue⟩ := hSA.out
        obtain ⟨nu, hnu⟩ : ∃ n, n = F.length := ⟨_, rfl⟩
        rw [← hnu] at hue hFb
        have HNU : Hid _ := hnu
        subst hue
        have HSW : Hid (Sr wA (.slice au nu cu) F) := hSA
        have HRA : Hid (r < wA.heap.size ∧ wA.cell? ⟨r, o + m, none⟩ = some (.slice au nu cu)) := ⟨hrA, hcA⟩
        have hcn : wr.cell? ⟨T, m, none⟩ = some (.bool (nd.getD m false)) := bel_cell hM.out.2.2 HAT.out.2.1 (HAT.out.1 m hlt)
        have hTr : T < wr.heap.size := Nat.lt_of_lt_of_le HAT.out.2.1 hz0
        obtain ⟨b, hb⟩ : ∃ b, b = nd.getD m false := ⟨_, rfl⟩
        rw [← hb] at hcn
        have HAF : Hid (∀ x ∈ F, 0 ≤ x ∧ x < (g : Int) + (m : Int)) := HAD.out m F hF
        have HNX : Hid (kpS g L nd (m + 1) = if b then ((kpS g L nd m).1.set m ((g : Int) + (nq : Int)), (kpS g L nd m).2 ++ [F.map (rn1 g (kpS g L nd m).1)]) else kpS g L nd m) := by
          unfold Hid
          rw [kpS, ← hb, HNQ.out, List.getD_eq_getElem?_getD, hF]; rfl
        clear HCU hSA hrA hcA hF hnu hb
        cases b with
        | false =>
          have HN1 : Hid (kpS g L nd (m + 1) = kpS g L nd m) := HNX.out
          go_wp2_with fail
          refine ⟨⟨m + 1, by omega, by go_num, by rw [HN1.out]; exact hM.out.1, by rw [HN1.out]; exact hM.out.2.1, hM.out.2.2⟩, by simp [intOf]; omega⟩
        | true =>
          have HN1 : Hid (kpS g L nd (m + 1) = ((kpS g L nd m).1.set m ((g : Int) + (nq : Int)), (kpS g L nd m).2 ++ [F.map (rn1 g (kpS g L nd m).1)])) := HNX.out
          obtain ⟨wQ, hwQ⟩ : ∃ wQ, wQ = wr := ⟨_, rfl⟩
          subst hwQ
          obtain ⟨R, hR⟩ : ∃ R, R = (kpS g L nd m).1 := ⟨_, rfl⟩
          rw [← hR] at HN1
          have HRR : Hid (R = (kpS g L nd m).1 ∧ R.length = k) := ⟨hR, by rw [hR, (kpS_len g L nd m).1, ← HN.out]⟩
          clear hR
          go_wp2_with fail
          go_loopw [16, 17] (fun s i wr => ∃ j : Nat, j ≤ nu ∧ i = .int .i64 (j : Int) ∧ Hid (Is' wr wQ.heap.size s (rnT g R F j) ∧ Below wQ.heap.size wQ wr)) (fun s i wr => nu - (intOf i).toNat)
          case atStart => exact ⟨0, Nat.zero_le _, rfl, World.ownsRow_nil _ _ _ _, Below.refl _ _⟩
          case round =>
            obtain ⟨j, hj, rfl, hJ⟩ := hrel
            obtain ⟨s, hss⟩ : ∃ s, s = u16 := ⟨_, rfl⟩
            rw [← hss] at hJ ⊢
            clear hss
            have HBA : Hid (Below wA.heap.size wA wr) := hM.out.2.2.trans (hJ.out.2.mono hz0)
            have HBW : Hid (Below w.heap.size w wr) := HAT.out.2.2.1.trans (HBA.out.mono HAT.out.2.2.1.size)
            have hzj := hJ.out.2.size
            have hcu2 : wr.cell? ⟨r, o + m, none⟩ = some (.slice au nu cu) := bel_cell HBA.out HRA.out.1 HRA.out.2
            have hro2 : r < wr.heap.size := World.block_lt_of_cell? _ _ hcu2
            by_cases hlt2 : j < nu
            · have hltJ : (j : Int) < (nu : Int) := by omega
              have hjl : j < F.length := by rw [← HNU.out]; exact hlt2
              obtain ⟨r2, o2, rfl, hcj⟩ := HSW.out.at' HBA.out hjl
              have hr2 : r2 < wr.heap.size := World.block_lt_of_cell? _ _ hcj
              obtain ⟨hx0, hx1⟩ := HAF.out _ (getD_in hjl)
              have HFS : Hid _ := rnT_step (g := g) (R := R) (at_getD hjl)
              obtain ⟨x, hx⟩ : ∃ x : Nat, F.getD j 0 = (x : Int) := ⟨(F.getD j 0).toNat, by omega⟩
              rw [hx] at hcj hx0 hx1 HFS
              obtain ⟨ns, hns⟩ : ∃ n, n = (rnT g R F j).length := ⟨_, rfl⟩
              have hnsj : ns = j := by rw [hns]; exact rnT_len (by omega)
              have HNS : Hid (wr.ownsRow wQ.heap.size 3 1 s ns ((rnT g R F j).map (Value.int .i64))) := by unfold Hid; rw [hns]; exact hJ.out.1
              have HNSL : Hid (ns = (rnT g R F j).length) := hns
              have hnsb : ns ≤ 2000 := by omega
              clear hx hjl hns hnsj
              by_cases hge : g ≤ x
              · have hgeI : (g : Int) ≤ (x : Int) := by omega
                obtain ⟨y, hy⟩ : ∃ y, y = x - g := ⟨_, rfl⟩
                have hyI : (x : Int) - (g : Int) = (y : Int) := by omega
                have hyn : y < k := by omega
                have hynI : (y : Int) < (k : Int) := by omega
                obtain ⟨r3, o3, e3, hcy⟩ := (Is'.sr hM.out.2.1).at' hJ.out.2 (k := y) (by rw [(kpS_len g L nd m).1, ← HN.out]; exact hyn)
                injection e3 with e3
                injection e3 with e3 e4
                subst e3 e4
                rw [Nat.zero_add, ← HRR.out.1] at hcy
                have hXl : X < wr.heap.size := World.block_lt_of_cell? _ _ hcy
                obtain ⟨t, ht⟩ : ∃ t, t = R.getD y 0 := ⟨_, rfl⟩
                rw [← ht] at hcy
                have HE : Hid (rnT g R F (j + 1) = rnT g R F j ++ [t]) := by
                  unfold Hid
                  rw [HFS.out]
                  unfold rn1
                  rw [if_pos hgeI, hyI, Int.toNat_natCast, ← ht]
                clear hy ht
                go_wp2_with (at_builtin; refine wpList_append_own_at _ rfl _ _ 51 rfl wQ.heap.size 3 tj _ 1 8 underInts HJ.out.1 HJ.out.2.1 HJ.out.2.2.1 HJ.out.2.2.2 rfl (by decide) _ ns _ rfl (row_kept HNS.out (fun _ hq => heap_alloc_old _ _ hq)) ⟨wr.heap.size, 0, none⟩ 1 1 [_] rfl rfl (cell_one_new _ _ _) (fun u hu => by rw [List.mem_singleton.1 hu]; rfl) (by unfold maxLen; omega) (by omega) (by simp; omega) ?_; intro v1 w5 hown hgrow hnil hat)
                have hI5 : Is' w5 wQ.heap.size v1 (rnT g R F j ++ [t]) := by unfold Is'; rw [List.length_append, List.map_append, ← HNSL.out]; exact hown
                have hb5 : Below wQ.heap.size wQ w5 := low_grown hJ.out.2 hzj hgrow (fun q e => (HNS.out.lt q e).1)
                exact ⟨⟨j + 1, by omega, by go_num, by rw [HE.out]; exact hI5, hb5⟩, by simp [intOf]; omega⟩
              · have hgeI : ¬ (g : Int) ≤ (x : Int) := by omega
                have HE : Hid (rnT g R F (j + 1) = rnT g R F j ++ [(x : Int)]) := by
                  unfold Hid
                  rw [HFS.out]
                  unfold rn1
                  rw [if_neg hgeI]
                go_wp2_with (at_builtin; refine wpList_append_own_at _ rfl _ _ 51 rfl wQ.heap.size 3 tj _ 1 8 underInts HJ.out.1 HJ.out.2.1 HJ.out.2.2.1 HJ.out.2.2.2 rfl (by decide) _ ns _ rfl (row_kept HNS.out (fun _ hq => heap_alloc_old _ _ hq)) ⟨wr.heap.size, 0, none⟩ 1 1 [_] rfl rfl (cell_one_new _ _ _) (fun u hu => by rw [List.mem_singleton.1 hu]; rfl) (by unfold maxLen; omega) (by omega) (by simp; omega) ?_; intro v1 w5 hown hgrow hnil hat)
                have hI5 : Is' w5 wQ.heap.size v1 (rnT g R F j ++ [(x : Int)]) := by unfold Is'; rw [List.length_append, List.map_append, ← HNSL.out]; exact hown
                have hb5 : Below wQ.heap.size wQ w5 := low_grown hJ.out.2 hzj hgrow (fun q e => (HNS.out.lt q e).1)
                exact ⟨⟨j + 1, by omega, by go_num, by rw [HE.out]; exact hI5, hb5⟩, by simp [intOf]; omega⟩
            · obtain rfl : j = nu := by omega
              have hltJ : ¬ (j : Int) < (j : Int) := by omega
              have hFe : Is' wr wQ.heap.size s (F.map (rn1 g R)) := by
                have := hJ.out.1
                rw [HNU.out, rnT_end] at this; exact this
              obtain ⟨sa, sc, hse⟩ := own_slice hFe
              rw [show (F.map (rn1 g R)).length = j by rw [List.length_map]; exact HNU.out.symm] at hse
              subst hse
              have hRr : Is' wr wA.heap.size (.slice (some ⟨X, 0, none⟩) k k) R := by rw [HRR.out.1]; exact row_kept hM.out.2.1 hJ.out.2.block
              obtain ⟨⟨z0, hcx⟩, hfx, hpx⟩ := Is'.put hRr (j := m) (by rw [HRR.out.2]; exact hlt)
              obtain ⟨p1, p2⟩ := hpx ((g : Int) + (nq : Int))
              have hXQ : X < wQ.heap.size := (World.ownsRow.lt hM.out.2.1 X rfl).2
              have hqX : (Value.slice aq nq cq).ownBlock ≠ some X := fun e => by
                obtain ⟨us, h1, -⟩ := hM.out.1.ex
                exact row_ne h1 hM.out.2.1 (by decide) e rfl
              have HG3 : Hid (Ge X 51 (wr.setCell ⟨X, m, none⟩ (.int .i64 ((g : Int) + (nq : Int)))) wA.heap.size (.slice aq nq cq) (kpS g L nd m).2) := (hM.out.1.below hJ.out.2).far hqX _ _
              have HU3 : Hid (Sf (wr.setCell ⟨X, m, none⟩ (.int .i64 ((g : Int) + (nq : Int)))) (fun q => own (.slice aq nq cq) q ∨ q = X) (.slice sa j sc) (F.map (rn1 g R))) := (Is'.sf hFe (fun q hq => by
                rcases hq with e | e
                · exact (hM.out.1.low q e).2
                · omega)).far (Or.inr rfl) _
              have HR3 : Hid (Is' (wr.setCell ⟨X, m, none⟩ (.int .i64 ((g : Int) + (nq : Int)))) wA.heap.size (.slice (some ⟨X, 0, none⟩) k k) (kpS g L nd (m + 1)).1 ∧ Below wA.heap.size wA (wr.setCell ⟨X, m, none⟩ (.int .i64 ((g : Int) + (nq : Int))))) := ⟨by rw [HN1.out]; exact p1, HBA.out.trans p2⟩
              have hXl : X < wr.heap.size := World.block_lt_of_cell? _ _ hcx
              clear hFe hRr hpx p1 p2
              obtain ⟨us, hus, husl, hu3⟩ := HG3.out.ex
              have HUX : Hid (∀ (i : Nat) u c', us[i]? = some u → (kpS g L nd m).2[i]? = some c' → Sf (wr.setCell ⟨X, m, none⟩ (.int .i64 ((g : Int) + (nq : Int)))) (fun q => own (.slice aq nq cq) q ∨ q = X) u c') := hu3
              have HUS : Hid ((wr.setCell ⟨X, m, none⟩ (.int .i64 ((g : Int) + (nq : Int)))).ownsRow wA.heap.size 51 1 (.slice aq nq cq) nq us ∧ us.length = nq) := by
                have e1 : us.length = nq := by rw [husl, HNQ.out]
                exact ⟨by rw [← e1]; exact e1 ▸ hus, e1⟩
              have HQX : Hid ((Value.slice aq nq cq).ownBlock ≠ some X) := hqX
              clear hus husl hu3 hqX
              have hz3 := HR3.out.2.size
              go_wp2_with (at_builtin; refine wpList_append_own_at _ rfl _ _ 22 rfl wA.heap.size 51 ti (.slice none 0 0) 1 24 underLists HI.out.1 HI.out.2.1 HI.out.2.2.1 HI.out.2.2.2 rfl (by decide) (.slice aq nq cq) nq us rfl (row_kept HUS.out.1 (fun _ hq => heap_alloc_old _ _ hq)) ⟨wr.heap.size, 0, none⟩ 1 1 [.slice sa j sc] rfl rfl (by have h9 := cell_one_new (wr.setCell ⟨X, m, none⟩ (.int .i64 ((g : Int) + (nq : Int)))) (.slice sa j sc) 51; rw [World.size_setCell] at h9; exact h9) (by intro y hy; rw [List.mem_singleton.1 hy]; rfl) (by unfold maxLen; omega) (by omega) (by rw [size_alloc']; omega) ?_; intro v4 w5 hown hgrow hnil hat)
              have hG4 : Ge X 51 w5 wA.heap.size v4 (kpS g L nd (m + 1)).2 := by
                rw [HN1.out]
                exact Ge.app (by rw [HUS.out.2, HNQ.out]) HUX.out HU3.out hgrow (by rw [HUS.out.2]; exact hown) hat
              have hb4 : Below wA.heap.size wA w5 := low_grown HR3.out.2 (by omega) hgrow (fun q e => (HUS.out.1.lt q e).1)
              have hR4 : Is' w5 wA.heap.size (.slice (some ⟨X, 0, none⟩) k k) (kpS g L nd (m + 1)).1 := row_own HR3.out.1 fun q hq => (grown_of hgrow).block q (World.ownsRow.lt HR3.out.1 q hq).2 fun e => by
                injection hq with hq
                have hq' : X = q := hq
                exact HQX.out (by rw [hq']; exact e.symm)
              refine ⟨⟨m + 1, by omega, by go_num, hG4, hR4, hb4⟩, by simp [intOf]; omega⟩
end Go.Proofs.Ythdgmkjjpmigeaa
