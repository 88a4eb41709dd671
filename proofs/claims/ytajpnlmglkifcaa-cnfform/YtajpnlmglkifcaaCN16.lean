/- Contracts (the law's run): play: the walk. -/
import Derived.Test.YtajpnlmglkifcaaCN15
namespace Go.Proofs.Ytajpnlmglkifcaa
open Go.RowKit
set_option linter.unusedSimpArgs false
set_option linter.unusedVariables false

/-- What play leaves. -/
def PL (w w' : World) (X : Nat) (first : Int) (l : List Tp) (s : Rz) : Prop :=
  ∃ g e mv mp f, Rn w' w.heap.size X g e 60 mv mp s ∧ Pz first f s ∧ f ≤ l.length ∧ s.Lt.length ≤ l.length ∧ playR l (stS first) s ∧ Below w.heap.size w w'
set_option maxRecDepth 20000 in
set_option maxHeartbeats 3200000 in
theorem play_any (w : World) {a : Option Addr} {c : Nat} {l : List Tp} {first : Int} (hLa : La w a l) (hl : l.length ≤ 60) (h1 : 1 ≤ first) (h2 : first ≤ 1000) :
    Calls Try.prog 7 #[.slice a l.length c, .int .i64 first] w fun ev w' => ∃ X s, ev = .returned (.pointer (some ⟨X, 0, none⟩)) ∧ PL w w' X first l s := by
  have HLA : Hid _ := hLa
  obtain ⟨n, en⟩ : ∃ n, n = l.length := ⟨_, rfl⟩
  have HN : Hid _ := en
  rw [← en] at hl ⊢
  clear hLa en
  go_enter Try.func7, Try.ntmps7
  go_wp2_with fail
  refine (gnew_any 60 _).mono ?_
  rintro ev w1 ⟨rfl, hb1, hs1, hG⟩
  rw [r60] at hG
  have HG1 : Hid _ := hG
  have HB1 : Hid _ := hb1
  have HS1 : Hid (w1.heap.size = w.heap.size + 3) := hs1
  clear hG hb1 hs1
  go_wp2_with fail
  have hX2 : (w1.alloc (.cells #[.pointer (some ⟨w.heap.size + 2, 0, none⟩), .pointer none, .slice none 0 0, .slice none 0 0, .slice none 0 0, .bool true] 33)).heap[w1.heap.size]? = some (.cells #[.pointer (some ⟨w.heap.size + 2, 0, none⟩), .pointer none, .slice none 0 0, .slice none 0 0, .slice none 0 0, .bool true] 33 (0, 0)) := heap_alloc_new w1 _
  have hb2 : Below w1.heap.size w1 (w1.alloc (.cells #[.pointer (some ⟨w.heap.size + 2, 0, none⟩), .pointer none, .slice none 0 0, .slice none 0 0, .slice none 0 0, .bool true] 33)) := (Below.refl _ _).alloc (Nat.le_refl _) _
  have hs2 : (w1.alloc (.cells #[.pointer (some ⟨w.heap.size + 2, 0, none⟩), .pointer none, .slice none 0 0, .slice none 0 0, .slice none 0 0, .bool true] 33)).heap.size = w1.heap.size + 1 := size_alloc' _ _
  refine Calls.mono (cnew_any _ h1 (by omega) _) ?_
  obtain ⟨w2, hw2⟩ : ∃ y, y = w1.alloc (.cells #[.pointer (some ⟨w.heap.size + 2, 0, none⟩), .pointer none, .slice none 0 0, .slice none 0 0, .slice none 0 0, .bool true] 33) := ⟨_, rfl⟩
  rw [← hw2] at hX2 hb2 hs2 ⊢
  rintro ev w3 ⟨rfl, hE, hb3⟩
  rw [hs2, show w1.heap.size + 1 + 2 = w1.heap.size + 3 from rfl, show w1.heap.size + 1 + 1 = w1.heap.size + 2 from rfl] at hE
  rw [hs2, show w1.heap.size + 1 + 2 = w1.heap.size + 3 from rfl]
  have hX3 : w3.heap[w1.heap.size]? = some (.cells #[.pointer (some ⟨w.heap.size + 2, 0, none⟩), .pointer none, .slice none 0 0, .slice none 0 0, .slice none 0 0, .bool true] 33 (0, 0)) := (hb3.block _ (by omega)).trans hX2
  have hb13 : Below w1.heap.size w1 w3 := hb2.trans (hb3.mono hb2.size)
  have c3 := cell_of hX3 1 rfl
  have f3 : w3.frozen? ⟨w1.heap.size, 1, none⟩ = false := by simp [World.frozen?, hX3]
  have hl3 : w1.heap.size < w3.heap.size := by have := hb3.size; omega
  obtain ⟨HR0, HB0⟩ := Rn.start HG1.out HB1.out HS1.out hX3 hb13 hE rfl
  obtain ⟨X, hX⟩ : ∃ X, X = w1.heap.size := ⟨_, rfl⟩
  rw [← hX] at HR0 HB0 c3 f3 hl3 ⊢
  obtain ⟨g, hg⟩ : ∃ g, g = w.heap.size + 2 := ⟨_, rfl⟩
  obtain ⟨e, he⟩ : ∃ e, e = X + 3 := ⟨_, rfl⟩
  obtain ⟨mv, hmv⟩ : ∃ e, e = X + 1 := ⟨_, rfl⟩
  obtain ⟨mp, hmp⟩ : ∃ e, e = X + 2 := ⟨_, rfl⟩
  rw [← hg, ← he, ← hmv, ← hmp] at HR0
  rw [← he] at HB0 ⊢
  have HR : Hid _ := HR0
  have HB : Hid _ := HB0
  clear HR0 HB0 hX3 hb13 hb3 hE hw2 hX2 hb2 hs2 hX hg he hmv hmp HG1 HB1 HS1
  go_wp2_with fail
  obtain ⟨w4, hw4⟩ : ∃ y, y = w3.setCell ⟨X, 1, none⟩ (.pointer (some ⟨e, 0, none⟩)) := ⟨_, rfl⟩
  rw [← hw4] at HR HB ⊢
  clear hw4 c3 f3 hl3
  go_loopw [6] (fun i wr => ∃ k : Nat, k ≤ n ∧ i = .int .i64 (k : Int) ∧ ∃ s f, Hid (Rn wr w.heap.size X g e 60 mv mp s ∧ Pz first f s ∧ f ≤ k ∧ s.Lt.length ≤ k ∧ playR (l.take k) (stS first) s ∧ Below w.heap.size w wr)) (fun i wr => n - (intOf i).toNat)
  case atStart => exact ⟨0, Nat.zero_le _, rfl, stS first, 0, HR.out, Pz.start first, Nat.le_refl _, Nat.le_refl _, by rw [List.take_zero]; exact rfl, HB.out⟩
  case round =>
    obtain ⟨k, hk, rfl, s, f, hH⟩ := hrel
    by_cases hkn : k < n
    · obtain ⟨st, hs⟩ : ∃ s, l[k]? = some s := ⟨_, List.getElem?_eq_getElem (by rw [← HN.out]; exact hkn)⟩
      obtain ⟨ga, oa, rfl, hga, hLn⟩ := HLA.out.resolve_left (fun e => by have := HN.out; rw [e] at this; simp at this; omega)
      obtain ⟨hR, hP, hf, hLt, hpl, hbl⟩ := hH.out
      have HTK : Hid (∀ s', stepR st s s' → playR (l.take (k + 1)) (stS first) s') := fun s' h => by
        rw [List.take_add_one, hs]
        exact playR_snoc hpl h
      have d0 : wr.cell? ⟨ga, oa + k * 3, none⟩ = some (.int .i64 st.what) := keep_cell hbl (hLn k st hs 0 _ rfl)
      have d1 : wr.cell? ⟨ga, oa + k * 3 + 1, none⟩ = some (.int .i64 st.a) := keep_cell hbl (hLn k st hs 1 _ rfl)
      have d2 : wr.cell? ⟨ga, oa + k * 3 + 2, none⟩ = some (.int .i64 st.b) := keep_cell hbl (hLn k st hs 2 _ rfl)
      have hwr := hbl.size
      have hkI : (k : Int) < (n : Int) := by omega
      have hvl := hP.len
      have hcl := hP.clen
      have hpos := hP.inv.pos
      have hR' := hR
      obtain ⟨F, col, va, vl, vr, us, hx⟩ := hR'
      have hgl := hx.gr.len
      have x0 : wr.cell? ⟨X, 0, none⟩ = some (.pointer (some ⟨g, 0, none⟩)) := cell_of hx.hd 0 rfl
      have x1 : wr.cell? ⟨X, 1, none⟩ = some (.pointer (some ⟨e, 0, none⟩)) := cell_of hx.hd 1 rfl
      have x5 : wr.cell? ⟨X, 5, none⟩ = some (.bool true) := cell_of hx.hd 5 rfl
      have xf : wr.frozen? ⟨X, 5, none⟩ = false := by simp [World.frozen?, hx.hd]
      have hxl := hx.lt
      have HNO : Hid (Calls Try.prog 16 #[.pointer (some ⟨g, 0, none⟩)] wr fun e w' => e = .returned (.int .i64 ((s.ks.length : Int) - 1)) ∧ w' = wr) := nodes_any hx.gr
      obtain ⟨N, hN⟩ : ∃ N, N = s.ks.length := ⟨_, rfl⟩
      have HNN : Hid _ := hN
      rw [← hN] at HNO hgl hpos hvl hcl
      have hgl1 : N ≤ 61 := hgl.1
      have HPL : Hid (∀ k wx, Calls Try.prog 15 #[.int .i64 k, .int .i64 (2 * (N : Int))] wx fun e w' => e = .returned (.int .i64 (k % (2 * (N : Int)))) ∧ w' = wx) := fun k wx => place_any (by omega) (by omega) wx
      have hab : (0 ≤ pa st s ∧ pa st s < 2 * (N : Int)) ∧ 0 ≤ pb st s ∧ pb st s < 2 * (N : Int) := by
        unfold pa pb
        rw [← hN]
        exact ⟨⟨Int.emod_nonneg _ (by omega), Int.emod_lt_of_pos _ (by omega)⟩, Int.emod_nonneg _ (by omega), Int.emod_lt_of_pos _ (by omega)⟩
      have hpa : st.a % (2 * (N : Int)) = pa st s := by unfold pa; rw [hN]
      have hpb : st.b % (2 * (N : Int)) = pb st s := by unfold pb; rw [hN]
      obtain ⟨P, hPe⟩ : ∃ P, P = pa st s := ⟨_, rfl⟩
      obtain ⟨Q, hQe⟩ : ∃ P, P = pb st s := ⟨_, rfl⟩
      rw [← hPe] at hab hpa
      rw [← hQe] at hab hpb
      have HPQ : Hid (P = pa st s ∧ Q = pb st s) := ⟨hPe, hQe⟩
      obtain ⟨M, hM⟩ : ∃ M : Int, M = (N : Int) - 1 := ⟨_, rfl⟩
      have hM2 : 2 * M + 2 = 2 * (N : Int) := by omega
      have hM3 : 0 ≤ M ∧ M ≤ 60 := by omega
      rw [← hM] at HNO
      have HPM : Hid (∀ k wx, Calls Try.prog 15 #[.int .i64 k, .int .i64 (2 * M + 2)] wx fun e w' => e = .returned (.int .i64 (k % (2 * M + 2))) ∧ w' = wx) := fun k wx => by rw [hM2]; exact HPL.out k wx
      have HMA : Hid (st.a % (2 * M + 2) = P) := by unfold Hid; rw [hM2]; exact hpa
      have HMB : Hid (st.b % (2 * M + 2) = Q) := by unfold Hid; rw [hM2]; exact hpb
      have HAB : Hid _ := hab
      clear hR hP hf hLt hpl hbl hLn hs hx hgl hN hPe hQe hpa hpb hab HPL hcl hM hM2
      go_wp2_with fail
      refine Calls.mono HNO.out ?_
      rintro ev wz ⟨rfl, hz⟩
      rw [hz]
      clear hz wz
      obtain ⟨hM3, hM4⟩ := hM3
      go_wp2_with fail
      clear HNO
      go_quiet ((go_at_call 15; refine Calls.quiet_of_same (HPM.out _ _)))
      rw [HMA.out, HMB.out]
      obtain ⟨wd, hwd⟩ : ∃ wd, wd = wr.drewN nq := ⟨_, rfl⟩
      rw [← hwd]
      have hbd : Below wr.heap.size wr wd := by rw [hwd]; exact below_drewN (Below.refl _ _) _
      have y0 := keep_cell hbd d0
      have e0 := keep_cell hbd x0
      have e1 := keep_cell hbd x1
      have e5 := keep_cell hbd x5
      have ef : wd.frozen? ⟨X, 5, none⟩ = false := by rw [hbd.frozen (p := ⟨X, 5, none⟩) hxl]; exact xf
      have hxd : X < wd.heap.size := by have := hbd.size; omega
      have hwd2 : w.heap.size ≤ wd.heap.size := by have := hbd.size; omega
      have HD : Hid (Rn wd w.heap.size X g e 60 mv mp s ∧ Below w.heap.size w wd) := ⟨hH.out.1.below hbd, hH.out.2.2.2.2.2.trans (hbd.mono hwr)⟩
      have hP := hH.out.2.1
      have hf := hH.out.2.2.1
      have hLt := hH.out.2.2.2.1
      have HPZ : Hid _ := hP
      clear hwd hbd d0 d1 d2 x0 x1 x5 xf HPM HMA HMB hP
      obtain ⟨F, col, va, vl, vr, us, hx⟩ := HD.out.1
      have HGR : Hid (Gr wd F g 60 s.ks) := hx.gr
      have HX : Hid _ := hx
      have HEN : Hid _ := hx.en
      clear hx
      have HGO : Hid (∀ (w' : World) (F' : Nat → Prop) (ks2 : List Kd), Gr w' F' g 60 ks2 → Ch wd w' F F' → s.ks <+: ks2 → Rn w' w.heap.size X g e 60 mv mp { s with ks := ks2 } ∧ Pz first f { s with ks := ks2 } ∧ f ≤ k + 1 ∧ s.Lt.length ≤ k + 1 ∧ Below w.heap.size w w') := fun w' F' ks2 h1 h2 h3 => by
        obtain ⟨q1, q2⟩ := HX.out.grow hwd2 h1 h2
        exact ⟨q1, HPZ.out.grow h3 h1.inv, by omega, by omega, HD.out.2.trans q2⟩
      have HSAME : Hid (∀ w', Below wd.heap.size wd w' → Rn w' w.heap.size X g e 60 mv mp s ∧ Pz first f s ∧ f ≤ k + 1 ∧ s.Lt.length ≤ k + 1 ∧ Below w.heap.size w w') := fun w' hb => ⟨HD.out.1.below hb, HPZ.out, by omega, by omega, HD.out.2.trans (hb.mono hwd2)⟩
      by_cases q0 : st.what = 0
      · have HST : Hid (∀ s', s' = (if (insL s.ks).length < 5 then { s with ks := (inpF 60 s.ks).2.2 } else s) → playR (l.take (k + 1)) (stS first) s') := fun s' h => HTK.out s' (by unfold stepR; rw [if_pos q0]; exact h)
        rw [q0] at y0
        have HIN : Hid _ := inputs_any HGR.out
        clear q0
        go_wp2_with fail
        refine Calls.mono HIN.out ?_
        rintro ev w5 ⟨u, rfl, hI, hb5⟩
        obtain ⟨au, cu, rfl, -⟩ := hI.slice
        obtain ⟨m5, hm5⟩ : ∃ y, y = (insL s.ks).length := ⟨_, rfl⟩
        rw [← hm5] at HST ⊢
        have z0 := keep_cell hb5 e0
        have HB5 : Hid _ := hb5
        have HI5 : Hid _ := inp_any (HGR.out.below hb5)
        have hm6 : m5 ≤ 10000 := by rw [hm5]; have := insL_len s.ks; have := HNN.out; omega
        clear hI hb5 hm5
        by_cases h5 : (m5 : Int) < 5
        · go_wp2_with fail
          refine Calls.mono HI5.out ?_
          rintro ev w6 ⟨rfl, F', hG6, hC6⟩
          have H6 : Hid (Rn w6 w.heap.size X g e 60 mv mp { s with ks := (inpF 60 s.ks).2.2 } ∧ Pz first f { s with ks := (inpF 60 s.ks).2.2 } ∧ f ≤ k + 1 ∧ s.Lt.length ≤ k + 1 ∧ playR (l.take (k + 1)) (stS first) { s with ks := (inpF 60 s.ks).2.2 } ∧ Below w.heap.size w w6) := by
            obtain ⟨q1, q2, q3, q4, q5⟩ := HGO.out w6 F' _ hG6 ((Ch.of_below F HB5.out).trans hC6) inp_pre
            exact ⟨q1, q2, q3, q4, HST.out _ (by rw [if_pos (by omega)]), q5⟩
          clear hG6 hC6
          go_wp2_with fail
          exact ⟨⟨k + 1, by omega, by go_num, _, _, H6.out⟩, by simp [intOf]; omega⟩
        · have H6 : Hid (Rn w5 w.heap.size X g e 60 mv mp s ∧ Pz first f s ∧ f ≤ k + 1 ∧ s.Lt.length ≤ k + 1 ∧ playR (l.take (k + 1)) (stS first) s ∧ Below w.heap.size w w5) := by
            obtain ⟨q1, q2, q3, q4, q5⟩ := HSAME.out w5 HB5.out
            exact ⟨q1, q2, q3, q4, HST.out _ (by rw [if_neg (by omega)]), q5⟩
          go_wp2_with fail
          exact ⟨⟨k + 1, by omega, by go_num, _, _, H6.out⟩, by simp [intOf]; omega⟩
      by_cases qq1 : st.what = 1 ∨ st.what = 2 ∨ st.what = 3
      · have HST : Hid (playR (l.take (k + 1)) (stS first) { s with ks := (andF 60 s.ks P Q).2.2 }) := HTK.out _ (by unfold stepR; rw [if_neg q0, if_pos qq1]; rw [HPQ.out.1, HPQ.out.2])
        have HC : Hid _ := and_any HGR.out P Q
        clear q0
        rcases qq1 with qq | qq | qq
        · skip
          rw [qq] at y0
          clear qq
          go_wp2_with fail
          refine Calls.mono HC.out ?_
          rintro ev w6 ⟨rfl, F', hG6, hC6⟩
          have H6 : Hid (Rn w6 w.heap.size X g e 60 mv mp { s with ks := (andF 60 s.ks P Q).2.2 } ∧ Pz first f { s with ks := (andF 60 s.ks P Q).2.2 } ∧ f ≤ k + 1 ∧ s.Lt.length ≤ k + 1 ∧ playR (l.take (k + 1)) (stS first) { s with ks := (andF 60 s.ks P Q).2.2 } ∧ Below w.heap.size w w6) := by
            obtain ⟨q1, q2, q3, q4, q5⟩ := HGO.out w6 F' _ hG6 hC6 and_pre.1
            exact ⟨q1, q2, q3, q4, HST.out, q5⟩
          clear hG6 hC6
          go_wp2_with fail
          exact ⟨⟨k + 1, by omega, by go_num, _, _, H6.out⟩, by simp [intOf]; omega⟩
        · skip
          rw [qq] at y0
          clear qq
          go_wp2_with fail
          refine Calls.mono HC.out ?_
          rintro ev w6 ⟨rfl, F', hG6, hC6⟩
          have H6 : Hid (Rn w6 w.heap.size X g e 60 mv mp { s with ks := (andF 60 s.ks P Q).2.2 } ∧ Pz first f { s with ks := (andF 60 s.ks P Q).2.2 } ∧ f ≤ k + 1 ∧ s.Lt.length ≤ k + 1 ∧ playR (l.take (k + 1)) (stS first) { s with ks := (andF 60 s.ks P Q).2.2 } ∧ Below w.heap.size w w6) := by
            obtain ⟨q1, q2, q3, q4, q5⟩ := HGO.out w6 F' _ hG6 hC6 and_pre.1
            exact ⟨q1, q2, q3, q4, HST.out, q5⟩
          clear hG6 hC6
          go_wp2_with fail
          exact ⟨⟨k + 1, by omega, by go_num, _, _, H6.out⟩, by simp [intOf]; omega⟩
        · skip
          rw [qq] at y0
          clear qq
          go_wp2_with fail
          refine Calls.mono HC.out ?_
          rintro ev w6 ⟨rfl, F', hG6, hC6⟩
          have H6 : Hid (Rn w6 w.heap.size X g e 60 mv mp { s with ks := (andF 60 s.ks P Q).2.2 } ∧ Pz first f { s with ks := (andF 60 s.ks P Q).2.2 } ∧ f ≤ k + 1 ∧ s.Lt.length ≤ k + 1 ∧ playR (l.take (k + 1)) (stS first) { s with ks := (andF 60 s.ks P Q).2.2 } ∧ Below w.heap.size w w6) := by
            obtain ⟨q1, q2, q3, q4, q5⟩ := HGO.out w6 F' _ hG6 hC6 and_pre.1
            exact ⟨q1, q2, q3, q4, HST.out, q5⟩
          clear hG6 hC6
          go_wp2_with fail
          exact ⟨⟨k + 1, by omega, by go_num, _, _, H6.out⟩, by simp [intOf]; omega⟩
      by_cases qq2 : st.what = 4
      · have HST : Hid (playR (l.take (k + 1)) (stS first) { s with ks := (xorF 60 s.ks P Q).2.2 }) := HTK.out _ (by unfold stepR; rw [if_neg q0, if_neg qq1, if_pos qq2]; rw [HPQ.out.1, HPQ.out.2])
        have HC : Hid _ := xor_any HGR.out (a := P) (b := Q) (by have := HAB.out; unfold w64; omega) (by have := HAB.out; unfold w64; omega)
        clear q0 qq1
        rw [qq2] at y0
        clear qq2
        go_wp2_with fail
        refine Calls.mono HC.out ?_
        rintro ev w6 ⟨rfl, F', hG6, hC6⟩
        have H6 : Hid (Rn w6 w.heap.size X g e 60 mv mp { s with ks := (xorF 60 s.ks P Q).2.2 } ∧ Pz first f { s with ks := (xorF 60 s.ks P Q).2.2 } ∧ f ≤ k + 1 ∧ s.Lt.length ≤ k + 1 ∧ playR (l.take (k + 1)) (stS first) { s with ks := (xorF 60 s.ks P Q).2.2 } ∧ Below w.heap.size w w6) := by
          obtain ⟨q1, q2, q3, q4, q5⟩ := HGO.out w6 F' _ hG6 hC6 mux_pre.1
          exact ⟨q1, q2, q3, q4, HST.out, q5⟩
        clear hG6 hC6
        go_wp2_with fail
        exact ⟨⟨k + 1, by omega, by go_num, _, _, H6.out⟩, by simp [intOf]; omega⟩
      by_cases qq3 : st.what = 5 ∨ st.what = 6 ∨ st.what = 7
      · have HST : Hid (∀ L, UO s.ks s.T (max P.toNat 1) L → playR (l.take (k + 1)) (stS first) (rtS s L P.toNat)) := fun L hU => HTK.out _ (by unfold stepR; rw [if_neg q0, if_neg qq1, if_neg qq2, if_pos qq3, ← HPQ.out.1]; exact ⟨L, hU, rfl⟩)
        have hPn : (P.toNat : Int) = P := by have := HAB.out; omega
        have HC : Hid _ := rroot_any (l := P.toNat) HD.out.1 HPZ.out h1 (by omega) (by omega) (by have := HAB.out; have := HNN.out; omega) (by have := HPZ.out.clen; have := HNN.out; omega) (by omega) hwd2
        rw [hPn] at HC
        clear q0 qq1 qq2 hPn
        rcases qq3 with qq | qq | qq
        · rw [qq] at y0
          clear qq
          go_wp2_with fail
          refine Calls.mono HC.out ?_
          rintro ev w6 ⟨rfl, L, hU, hR6, hb6⟩
          have H6 : Hid (Rn w6 w.heap.size X g e 60 mv mp (rtS s L P.toNat) ∧ Pz first f (rtS s L P.toNat) ∧ f ≤ k + 1 ∧ (rtS s L P.toNat).Lt.length ≤ k + 1 ∧ playR (l.take (k + 1)) (stS first) (rtS s L P.toNat) ∧ Below w.heap.size w w6) := ⟨hR6, (HPZ.out.root h1 hU).1, by omega, by show (s.Lt ++ [P.toNat]).length ≤ k + 1; rw [List.length_append]; simp; omega, HST.out L hU, HD.out.2.trans hb6⟩
          clear hU hR6 hb6
          go_wp2_with fail
          exact ⟨⟨k + 1, by omega, by go_num, _, _, H6.out⟩, by simp [intOf]; omega⟩
        · rw [qq] at y0
          clear qq
          go_wp2_with fail
          refine Calls.mono HC.out ?_
          rintro ev w6 ⟨rfl, L, hU, hR6, hb6⟩
          have H6 : Hid (Rn w6 w.heap.size X g e 60 mv mp (rtS s L P.toNat) ∧ Pz first f (rtS s L P.toNat) ∧ f ≤ k + 1 ∧ (rtS s L P.toNat).Lt.length ≤ k + 1 ∧ playR (l.take (k + 1)) (stS first) (rtS s L P.toNat) ∧ Below w.heap.size w w6) := ⟨hR6, (HPZ.out.root h1 hU).1, by omega, by show (s.Lt ++ [P.toNat]).length ≤ k + 1; rw [List.length_append]; simp; omega, HST.out L hU, HD.out.2.trans hb6⟩
          clear hU hR6 hb6
          go_wp2_with fail
          exact ⟨⟨k + 1, by omega, by go_num, _, _, H6.out⟩, by simp [intOf]; omega⟩
        · rw [qq] at y0
          clear qq
          go_wp2_with fail
          refine Calls.mono HC.out ?_
          rintro ev w6 ⟨rfl, L, hU, hR6, hb6⟩
          have H6 : Hid (Rn w6 w.heap.size X g e 60 mv mp (rtS s L P.toNat) ∧ Pz first f (rtS s L P.toNat) ∧ f ≤ k + 1 ∧ (rtS s L P.toNat).Lt.length ≤ k + 1 ∧ playR (l.take (k + 1)) (stS first) (rtS s L P.toNat) ∧ Below w.heap.size w w6) := ⟨hR6, (HPZ.out.root h1 hU).1, by omega, by show (s.Lt ++ [P.toNat]).length ≤ k + 1; rw [List.length_append]; simp; omega, HST.out L hU, HD.out.2.trans hb6⟩
          clear hU hR6 hb6
          go_wp2_with fail
          exact ⟨⟨k + 1, by omega, by go_num, _, _, H6.out⟩, by simp [intOf]; omega⟩
      by_cases qq4 : st.what = 8
      · have HST : Hid (playR (l.take (k + 1)) (stS first) { s with vars := s.vars + 1 }) := HTK.out _ (by unfold stepR; rw [if_neg q0, if_neg qq1, if_neg qq2, if_neg qq3, if_pos qq4])
        have HC : Hid _ := fresh_any HEN.out (by omega) (by omega)
        rw [qq4] at y0
        obtain ⟨vv, hvv⟩ : ∃ y, y = s.vars := ⟨_, rfl⟩
        rw [← hvv] at HC HST hvl
        have HVV : Hid _ := hvv
        clear q0 qq1 qq2 qq3 qq4 hvv
        go_wp2_with fail
        refine Calls.mono HC.out ?_
        rintro ev w6 ⟨rfl, hE6, hs6, hT6⟩
        have hX6 : w6.heap[X]? = wd.heap[X]? := hT6.block X hxd (fun hh => by have r1 := HX.out.cX.1; have r2 := HX.out.ce.1; rw [hh] at r1; omega)
        have i1 : w6.cell? ⟨X, 1, none⟩ = some (.pointer (some ⟨e, 0, none⟩)) := (World.cell?_of_block (a := ⟨X, 1, none⟩) hX6).trans e1
        have i5 : w6.cell? ⟨X, 5, none⟩ = some (.bool true) := (World.cell?_of_block (a := ⟨X, 5, none⟩) hX6).trans e5
        have if5 : w6.frozen? ⟨X, 5, none⟩ = false := (World.frozen?_of_block (a := ⟨X, 5, none⟩) hX6).trans ef
        have hxl6 : X < w6.heap.size := by have := hT6.size; omega
        have HVR : Hid (Calls Try.prog 9 #[.pointer (some ⟨e, 0, none⟩)] w6 fun ev w' => ev = .returned (.int .i64 (vv + 1)) ∧ w' = w6) := vars_any hE6
        have H6 : Hid (Rn w6 w.heap.size X g e 60 mv mp { s with vars := vv + 1 } ∧ Pz first (f + 1) { s with vars := vv + 1 } ∧ f + 1 ≤ k + 1 ∧ s.Lt.length ≤ k + 1 ∧ playR (l.take (k + 1)) (stS first) { s with vars := vv + 1 } ∧ Below w.heap.size w w6) := by
          rw [HVV.out] at hE6
          obtain ⟨q1, q2⟩ := HX.out.more hwd2 hE6 hT6
          have q3 := HPZ.out.fresh
          have q4 := HST.out
          rw [HVV.out] at q4 ⊢
          exact ⟨q1, q3, by omega, by omega, q4, HD.out.2.trans q2⟩
        clear hE6 hs6 hT6 hX6
        go_wp2_with fail
        refine Calls.mono HVR.out ?_
        rintro ev wz ⟨rfl, hz⟩
        rw [hz]
        clear hz wz
        go_wp2_with fail
        have H7 : Hid (Rn (w6.setCell ⟨X, 5, none⟩ (.bool true)) w.heap.size X g e 60 mv mp { s with vars := vv + 1 } ∧ Pz first (f + 1) { s with vars := vv + 1 } ∧ f + 1 ≤ k + 1 ∧ s.Lt.length ≤ k + 1 ∧ playR (l.take (k + 1)) (stS first) { s with vars := vv + 1 } ∧ Below w.heap.size w (w6.setCell ⟨X, 5, none⟩ (.bool true))) := by
          obtain ⟨q1, q2, q3, q4, q5, q6⟩ := H6.out
          obtain ⟨r1, r2⟩ := q1.fine
          exact ⟨r1, q2, q3, q4, q5, q6.trans r2⟩
        exact ⟨⟨k + 1, by omega, by go_num, _, _, H7.out⟩, by simp [intOf]; omega⟩
      · have HST : Hid (playR (l.take (k + 1)) (stS first) s) := HTK.out _ (by unfold stepR; rw [if_neg q0, if_neg qq1, if_neg qq2, if_neg qq3, if_neg qq4])
        have H6 : Hid (Rn wd w.heap.size X g e 60 mv mp s ∧ Pz first f s ∧ f ≤ k + 1 ∧ s.Lt.length ≤ k + 1 ∧ playR (l.take (k + 1)) (stS first) s ∧ Below w.heap.size w wd) := by
          obtain ⟨q1, q2, q3, q4, q5⟩ := HSAME.out wd (Below.refl _ _)
          exact ⟨q1, q2, q3, q4, HST.out, q5⟩
        obtain ⟨c1, c2, c3⟩ : ¬ st.what = 1 ∧ ¬ st.what = 2 ∧ ¬ st.what = 3 := by simp only [not_or] at qq1; exact qq1
        obtain ⟨c5, c6, c7⟩ : ¬ st.what = 5 ∧ ¬ st.what = 6 ∧ ¬ st.what = 7 := by simp only [not_or] at qq3; exact qq3
        clear qq1 qq3
        go_wp2_with fail
        exact ⟨⟨k + 1, by omega, by go_num, _, _, H6.out⟩, by simp [intOf]; omega⟩
    · obtain rfl : k = n := by omega
      have hkI : ¬ (k : Int) < (k : Int) := by omega
      obtain ⟨hR, hP, hf, hLt, hpl, hbl⟩ := hH.out
      go_wp2_with fail
      go_ret
      rw [HN.out, List.take_length] at hpl
      exact ⟨X, rfl, s, g, e, mv, mp, f, hR, hP, by rw [← HN.out]; exact hf, by rw [← HN.out]; exact hLt, hpl, hbl⟩
end Go.Proofs.Ytajpnlmglkifcaa
