/- Contracts (the laws): StorePlays. -/
import Derived.Test.YtkndjndhjdfhcaaST48
namespace Go.Proofs.Ytkndjndhjdfhcaa
open Go.RowKit
set_option linter.unusedSimpArgs false
set_option linter.unusedVariables false

theorem keep_grown {w wB wC : World} {v : Value} {x : List Int} {wM : World} (hb : Below w.heap.size w wB) (hv : Is' wM w.heap.size v x) (hg : wB.grownBy wC v.ownBlock) : Below w.heap.size w wC :=
  ⟨hg.os.trans hb.os, hg.tape.trans hb.tape, hg.output.trans hb.output, Nat.le_trans hb.size hg.size, fun q hq => (hg.block q (Nat.lt_of_lt_of_le hq hb.size) fun e => by have := (World.ownsRow.lt hv q e.symm).1; omega).trans (hb.block q hq)⟩
/-- A copy is handed in, and spoiled behind it. -/
theorem pl_spoil {w0 w w3 w4 w6 w7 : World} {F F' : Nat → Prop} {s mo : Nat} {C C' : List (List Int)} {va v : Value} {x : List Int} (hK : Kn w0 w F s mo C) (hL : Ll w F w0.heap.size va C) (hb3 : Below w.heap.size w w3) (hI : Is' w3 w.heap.size v x) (hC : Ch w3 w4 F F') (hS : So w4 F' s mo C') (hb6 : Below w4.heap.size w4 w6) (hg : w6.grownBy w7 v.ownBlock) (hz : w7.heap.size = w6.heap.size) :
    Kn w0 w7 F' s mo C' ∧ Ll w7 F' w0.heap.size va C ∧ ∀ {u : Value} {y : List Int} {w5 : World}, Is' w5 w4.heap.size u y → Is' w6 w4.heap.size u y → Is' w7 w4.heap.size u y := by
  have hn : ∀ q, v.ownBlock = some q → w.heap.size ≤ q ∧ q < w3.heap.size := fun q e => World.ownsRow.lt hI q e
  have hz3 := hb3.size
  have hz4 := hC.size
  have hz6 := hb6.size
  have hnF : ∀ q, v.ownBlock = some q → ¬ F' q := fun q e hf => by
    rcases hC.foot q hf with h1 | ⟨h1, -⟩
    · have := hK.so.lt q h1; have := (hn q e).1; omega
    · have := (hn q e).2; omega
  have hS7 : So w7 F' s mo C' := (hS.below hb6).kept (by omega) fun k hk hf => hg.block k hk fun e => hnF k e.symm hf
  have hc2 : Ch w w6 F F' := ((Ch.of_below F hb3).trans hC).trans (Ch.of_below F' hb6)
  have hC7 : Ch w w7 F F' := ⟨hg.os.trans hc2.os, hg.tape.trans hc2.tape, hg.output.trans hc2.output, by rw [hz]; exact hc2.size, fun k hk hf => (hg.block k (by omega) fun e => by have := hn k e.symm; omega).trans (hc2.block k hk hf), fun k hk => by
    rw [hz]; exact hc2.foot k hk⟩
  refine ⟨hK.ch hC7 hS7, hL.ch hC7, fun _ h6 => row_own h6 fun q e => hg.block q (World.ownsRow.lt h6 q e).2 fun e2 => ?_⟩
  have := (World.ownsRow.lt h6 q e).1
  have := (hn q e2.symm).2
  omega
theorem Sf.own {w3 w4 : World} {w : World} {F F' : Nat → Prop} {v : Value} {x : List Int} (hI : Is' w3 w.heap.size v x) (hC : Ch w3 w4 F F') (hF : ∀ k, F k → k < w.heap.size) : Is' w4 w.heap.size v x := row_own hI fun q e => hC.block q (World.ownsRow.lt hI q e).2 fun hf => by
  have := hF q hf; have := (World.ownsRow.lt hI q e).1; omega
theorem onceF_num (c : List Int) : (onceF c).2 = 0 ∨ (onceF c).2 = 110 ∨ (onceF c).2 = 112 := by
  unfold onceF
  split
  · split
    · exact Or.inr (Or.inr rfl)
    · exact Or.inl rfl
  · exact Or.inr (Or.inl rfl)
theorem onceF_le (c : List Int) : (onceF c).1.length ≤ c.length := by
  unfold onceF
  split
  · split
    · exact Nat.zero_le _
    · have := len_ddF c []; simpa [dd] using this
  · exact Nat.zero_le _
set_option maxRecDepth 20000 in
set_option maxHeartbeats 25600000 in
theorem plays_any (most : Int) (w : World) {vl : Value} {L : List (List Int)} (hL : Lr w vl L) (hl : L.length ≤ 70368744177664) (hc : ∀ x ∈ L, x.length ≤ 70368744177664) :
    Calls Try.prog 3 #[.int .i64 most, vl] w fun ev w' => ev = .returned (.bool true) ∧ Below w.heap.size w w' := by
  obtain ⟨ti, ht0, hz0, hz1, hz2⟩ := info_any infoList
  have HI : Hid _ := (⟨ht0, hz0, hz1, hz2⟩ : Try.prog.info? 27 = some ti ∧ ti.zero = _ ∧ ti.size = 1 ∧ ti.bytes = 24)
  clear ht0 hz0 hz1 hz2
  have HKN : Hid _ := known_any w
  have HL : Hid _ := hL
  have HCL : Hid _ := hc
  obtain ⟨a1, c1, e1⟩ := hL.out
  obtain ⟨n1, hn1⟩ : ∃ n, n = L.length := ⟨_, rfl⟩
  rw [← hn1] at e1
  have HN1 : Hid _ := hn1
  have HLE : Hid _ := hl
  subst e1
  clear hL hc hn1 hl
  go_enter Try.func3, Try.ntmps3
  go_wp2_with fail
  refine Calls.mono HKN.out ?_
  rintro ev w1 ⟨rfl, hb1⟩
  have HB1 : Hid _ := hb1
  have HSZ : Hid _ := size_any (HL.out.below hb1) HLE.out HCL.out (most := 1500) (by decide) (by decide)
  clear hb1 HKN
  go_wp2_with fail
  refine Calls.mono HSZ.out ?_
  rintro ev w2 ⟨⟨z, rfl, hz⟩, rfl⟩
  have HZ : Hid _ := hz
  clear hz HSZ
  by_cases hz : 1500 < z
  · go_wp2_with fail
    refine bodyPost_ret (results_tmp rfl _ _ _) rfl ?_
    exact ⟨rfl, HB1.out⟩
  by_cases h1 : (200 : Int) < (n1 : Int)
  · go_wp2_with fail
    refine bodyPost_ret (results_tmp rfl _ _ _) rfl ?_
    exact ⟨rfl, HB1.out⟩
  have HLL : Hid (∀ x ∈ L, x.length ≤ 1500) := fun x hx => by
    have e2 := HZ.out (by omega)
    have : x.length ≤ (L.map List.length).sum := len_sum hx
    omega
  have HL2 : Hid (Lr w2 (.slice a1 n1 c1) L) := HL.out.below HB1.out
  have HNW : Hid _ := snew_any most w2
  obtain ⟨mo, hmo⟩ : ∃ m, m = roomOf most := ⟨_, rfl⟩
  have hmm : min (max most 1) 262144 = (mo : Int) := by rw [hmo]; unfold roomOf; omega
  have hmb : mo ≤ 262144 := by omega
  rw [← hmo] at HNW
  have HMO : Hid _ := hmo
  clear HL HLE HCL HZ hmo
  go_wp2_with fail
  refine Calls.mono HNW.out ?_
  rintro ev w3 ⟨rfl, hb3, hz3, hX3⟩
  obtain ⟨F3, HK3⟩ : ∃ F3, Hid (Kn w2 w3 F3 (w2.heap.size + 1) mo []) := ⟨fun k => w2.heap.size ≤ k ∧ k < w3.heap.size, by rw [HMO.out] at hX3 ⊢; exact so_new hX3, hb3, fun k hk => hk.1⟩
  obtain ⟨s, hs⟩ : ∃ s, s = w2.heap.size + 1 := ⟨_, rfl⟩
  rw [← hs] at HK3 ⊢
  clear hb3 hz3 hX3 hs HNW HMO
  go_wp2_with fail
  clear hmm
  go_loopw [7, 8, 9] (fun q wd i wr => ∃ (k zz : Nat) (F : Nat → Prop) (C : List (List Int)), k ≤ n1 ∧ i = .int .i64 (k : Int) ∧ wd = .int .i64 (zz : Int) ∧ Hid (zz = (ar C).length) ∧ Hid (Kn w2 wr F s mo C ∧ Ll wr F w2.heap.size q C ∧ ∀ x ∈ C, x.length ≤ 1500)) (fun q wd i wr => n1 - (intOf i).toNat)
  case atStart => exact ⟨0, 0, F3, [], Nat.zero_le _, rfl, rfl, rfl, HK3.out, Ll.nil _ _ _, fun x hx => nomatch hx⟩
  case round =>
    obtain ⟨k, zz, F, C, hk, rfl, rfl, HZZ, hH⟩ := hrel
    obtain ⟨aq, cq, hq⟩ := hH.out.2.1.sl
    obtain ⟨nq, hnq⟩ : ∃ n, n = C.length := ⟨_, rfl⟩
    rw [← hnq] at hq
    subst hq
    have HNQ : Hid (nq = C.length) := hnq
    have hnqb : nq ≤ 131072 := by rw [hnq]; exact hH.out.1.so.len.1
    have hzzb : zz ≤ 262144 := by rw [HZZ.out]; exact hH.out.1.so.len.2
    clear hnq
    by_cases hlt : k < n1
    · have hltI : (k : Int) < (n1 : Int) := by omega
      obtain ⟨x, hx⟩ : ∃ x, L[k]? = some x := ⟨_, List.getElem?_eq_getElem (by rw [← HN1.out]; exact hlt)⟩
      have hxl := HLL.out x (List.mem_of_getElem? hx)
      obtain ⟨r, o, u, rfl, hcu, hSu⟩ := HL2.out.at' hx
      obtain ⟨au, nu, cu, hue⟩ : ∃ a n c, u = .slice a n c := by
        obtain ⟨a, c, e⟩ := hSu.out
        exact ⟨_, _, _, e⟩
      subst hue
      have hrl : r < w2.heap.size := World.block_lt_of_cell? _ _ hcu
      have HCU : Hid (∀ w', Below w2.heap.size w2 w' → w'.cell? ⟨r, o + k, none⟩ = some (.slice au nu cu) ∧ r < w'.heap.size) := fun w' hb => ⟨bel_cell hb hrl hcu, Nat.lt_of_lt_of_le hrl hb.size⟩
      have HSU : Hid (∀ w', Below w2.heap.size w2 w' → Sr w' (.slice au nu cu) x) := fun w' hb => hSu.below hb
      have HXL : Hid (x.length ≤ 1500) := hxl
      clear hx hxl hcu hSu hrl
      obtain ⟨hcr, hrr⟩ := HCU.out _ hH.out.1.bel
      have HCP : Hid _ := copyInts_sr (HSU.out _ hH.out.1.bel) (by have := HXL.out; omega)
      go_wp2_with fail
      refine Calls.mono HCP.out ?_
      rintro ev w3 ⟨vin, rfl, hI3, hb3⟩
      have hS3 : Sr w3 vin x := (hI3.sf_low (F := fun _ => False) (fun _ h => h.elim)).sr
      have HI3 : Hid (Is' w3 wr.heap.size vin x ∧ Below wr.heap.size wr w3) := ⟨hI3, hb3⟩
      have HAD : Hid _ := add_any (hH.out.1.so.below hb3) hS3 (by have := HXL.out; omega)
      obtain ⟨ai, ni, ki, hvi, -⟩ := own_sl hI3
      subst hvi
      obtain ⟨rf, hrf⟩ : ∃ y, y = (addF mo C x).1 := ⟨_, rfl⟩
      obtain ⟨ee, hee⟩ : ∃ y, y = (addF mo C x).2.1 := ⟨_, rfl⟩
      obtain ⟨C', hC'⟩ : ∃ y, y = (addF mo C x).2.2 := ⟨_, rfl⟩
      rw [← hrf, ← hee, ← hC'] at HAD
      have HRF : Hid (rf = (addF mo C x).1 ∧ ee = (addF mo C x).2.1 ∧ C' = (addF mo C x).2.2) := ⟨hrf, hee, hC'⟩
      clear hI3 hb3 hS3 hrf hee hC' HCP hcr hrr
      go_wp2_with fail
      refine Calls.mono HAD.out ?_
      rintro ev w4 ⟨rfl, F', hS4, hC4⟩
      have hb4 : Below w2.heap.size w2 w4 := hH.out.1.bel.trans (((Ch.of_below F HI3.out.2).trans hC4).below hH.out.1.low hH.out.1.bel.size)
      have HS4 : Hid (So w4 F' s mo C' ∧ Ch w3 w4 F F' ∧ Below w2.heap.size w2 w4) := ⟨hS4, hC4, hb4⟩
      obtain ⟨hcr, hrr⟩ := HCU.out _ hb4
      have HKE : Hid _ := kept_any (HSU.out _ hb4) (by have := HXL.out; omega)
      obtain ⟨E, hE⟩ : ∃ y, y = (onceF x).2 := ⟨_, rfl⟩
      obtain ⟨D, hD⟩ : ∃ y, y = (onceF x).1 := ⟨_, rfl⟩
      have HDL : Hid (D.length ≤ 1500) := by unfold Hid; rw [hD]; exact Nat.le_trans (onceF_le x) HXL.out
      rw [← hE, ← hD] at HKE
      have HE : Hid (E = (onceF x).2 ∧ D = (onceF x).1) := ⟨hE, hD⟩
      clear hS4 hC4 hb4 HAD hE hD
      go_wp2_with fail
      refine Calls.mono HKE.out ?_
      rintro ev w5 ⟨vc, rfl, hI5, hb5⟩
      obtain ⟨nc, hnc⟩ : ∃ n, n = D.length := ⟨_, rfl⟩
      have hncb : nc ≤ 1500 := by rw [hnc]; exact HDL.out
      obtain ⟨ac, kc, hvc⟩ := own_slice hI5
      have hI5' := hI5
      rw [← hnc] at hvc
      subst hvc
      have HI5 : Hid (Is' w5 w4.heap.size (.slice ac nc kc) D ∧ Below w4.heap.size w4 w5) := ⟨hI5', hb5⟩
      have HNC : Hid (nc = D.length) := hnc
      have hb25 : Below w2.heap.size w2 w5 := HS4.out.2.2.trans (hb5.mono HS4.out.2.2.size)
      have HB25 : Hid _ := hb25
      clear hcr hrr
      obtain ⟨hcr, hrr⟩ := HCU.out _ hb25
      have HIn4 : Hid (Is' w5 wr.heap.size (.slice ai ni ki) x) := row_own (Sf.own HI3.out.1 HS4.out.2.1 hH.out.1.so.lt) fun q e => hb5.block q (World.ownsRow.lt (Sf.own HI3.out.1 HS4.out.2.1 hH.out.1.so.lt) q e).2
      have HIN : Hid _ := ints_sr (HIn4.out.sf_low (F := fun _ => False) (fun _ h => h.elim)).sr (HSU.out _ hb25) (by have := HXL.out; omega) (by have := HXL.out; omega)
      rw [decide_eq_true (rfl : x = x)] at HIN
      clear hI5 hI5' hb5 hnc HKE hb25
      by_cases hE0 : E = 0
      · have hEE : (onceF x).2 = 0 := by rw [← HE.out.1]; exact hE0
        have hDD : D = dd x := HE.out.2.trans (once_ok hEE).2
        subst hE0
        by_cases hrm : mo < zz + nc + 2
        · have hrI : (mo : Int) < (zz : Int) + (nc : Int) + 2 := by omega
          have hee : ee = 111 := by
            rw [HRF.out.2.1]; unfold addF
            rw [if_neg (by omega), if_pos (by rw [← HZZ.out, ← hDD, ← HNC.out]; omega)]
          subst hee
          clear hEE hDD
          go_wp2_with fail
          refine Calls.mono HIN.out ?_
          rintro ev w6 ⟨rfl, hb6⟩
          have HSP : Hid _ := spoil_any (B := wr.heap.size) (row_own HIn4.out fun q e => hb6.block q (World.ownsRow.lt HIn4.out q e).2) (by have := HXL.out; omega)
          have HB6 : Hid (Below w5.heap.size w5 w6) := hb6
          clear hb6 HIN hcr hrr
          go_wp2_with fail
          refine Calls.mono HSP.out ?_
          rintro ev w7 ⟨rfl, hg7, hz7⟩
          have hP7 := pl_spoil hH.out.1 hH.out.2.1 HI3.out.2 HI3.out.1 HS4.out.2.1 HS4.out.1 (HI5.out.2.trans (HB6.out.mono HI5.out.2.size)) hg7 hz7
          have HP7 : Hid (Kn w2 w7 F' s mo C' ∧ Ll w7 F' w2.heap.size (.slice aq nq cq) C) := ⟨hP7.1, hP7.2.1⟩
          have HU7 : Hid (Is' w7 w4.heap.size (.slice ac nc kc) D) := hP7.2.2 HI5.out.1 (row_own HI5.out.1 fun q e => HB6.out.block q (World.ownsRow.lt HI5.out.1 q e).2)
          clear hP7 hg7 hz7 HSP
          have hCC : C' = C := by rw [HRF.out.2.2]; exact addF_no (by rw [← HRF.out.2.1]; omega)
          have HP : Hid (Kn w2 w7 F' s mo C' ∧ Ll w7 F' w2.heap.size (.slice aq nq cq) C' ∧ ∀ x ∈ C', x.length ≤ 1500) := by
            rw [hCC]
            exact ⟨hCC ▸ HP7.out.1, HP7.out.2, hH.out.2.2⟩
          have HPN : Hid ((nq : Int) = (C'.length : Int) ∧ (zz : Int) = ((ar C').length : Int)) := by
            rw [hCC]; exact ⟨by rw [HNQ.out], by rw [HZZ.out]⟩
          have HPZ : Hid (zz = (ar C').length) := by
            rw [hCC]; exact HZZ.out
          clear hCC HP7
          have HLN : Hid (∀ y, Below w7.heap.size w7 y → Calls Try.prog 17 #[.pointer (some ⟨s, 0, none⟩)] y fun e w' => e = .returned (.int .i64 (nq : Int)) ∧ Below y.heap.size y w') := fun y hy => by
            refine (slen_any (HP.out.1.so.below hy)).mono ?_
            rintro e w' ⟨rfl, rfl⟩
            exact ⟨by rw [← HPN.out.1] <;> rfl, Below.refl _ _⟩
          have HWD : Hid (∀ y, Below w7.heap.size w7 y → Calls Try.prog 18 #[.pointer (some ⟨s, 0, none⟩)] y fun e w' => e = .returned (.int .i64 (zz : Int)) ∧ Below y.heap.size y w') := fun y hy => by
            refine (swords_any (HP.out.1.so.below hy)).mono ?_
            rintro e w' ⟨rfl, rfl⟩
            exact ⟨by rw [← HPN.out.2] <;> rfl, Below.refl _ _⟩
          obtain ⟨b, hb⟩ : ∃ b, b = hasF C' x := ⟨_, rfl⟩
          have HHA : Hid (∀ y, Below w7.heap.size w7 y → Calls Try.prog 19 #[.pointer (some ⟨s, 0, none⟩), .slice au nu cu] y fun e w' => e = .returned (.bool b) ∧ Below y.heap.size y w') := fun y hy => by
            rw [hb]
            exact has_any (HP.out.1.so.below hy) (HSU.out _ (HP.out.1.bel.trans (hy.mono HP.out.1.bel.size))) (by have := HXL.out; omega)
          have HHB : Hid (∀ y, Below w7.heap.size w7 y → Calls Try.prog 20 #[.slice aq nq cq, .slice au nu cu] y fun e w' => e = .returned (.bool b) ∧ Below y.heap.size y w') := fun y hy => by
            rw [hb, has_pure HP.out.1.so.ok]
            exact has11_any (HP.out.2.1.ch (Ch.of_below F' hy)) (fun k hk => Nat.lt_of_lt_of_le (HP.out.1.so.lt k hk) hy.size) (HSU.out _ (HP.out.1.bel.trans (hy.mono HP.out.1.bel.size))) (by have := HXL.out; omega) HP.out.1.so.len.1 (fun y hy => Nat.le_trans (HP.out.2.2 y hy) (by decide))
          obtain ⟨hcr, hrr⟩ := HCU.out _ HP.out.1.bel
          have e1 : (b == b) = true := by simp
          have HBW : Hid (Below w7.heap.size w7 w7) := Below.refl _ _
          clear hb
          go_wp2_with fail
          go_region_held3 (fun y => y.cell? ⟨r, o + k, none⟩ = some (.slice au nu cu) ∧ Below w7.heap.size w7 y)
            ((first | (obtain ⟨q0, q2⟩ := ‹_ ∧ _›; with_reducible exact ⟨keep_cell hbk q0, below_step q2 hbk⟩) | exact ⟨hcr, drew_low _ _⟩))
            ((first | (go_at_call 17; have qq := ‹_ ∧ _›; refine (HLN.out _ qq.2).mono ?_; rintro e wz ⟨rfl, hbk⟩) | (go_at_call 18; have qq := ‹_ ∧ _›; refine (HWD.out _ qq.2).mono ?_; rintro e wz ⟨rfl, hbk⟩) | (go_at_call 19; have qq := ‹_ ∧ _›; refine (HHA.out _ qq.2).mono ?_; rintro e wz ⟨rfl, hbk⟩) | (go_at_call 20; have qq := ‹_ ∧ _›; refine (HHB.out _ qq.2).mono ?_; rintro e wz ⟨rfl, hbk⟩)))
          obtain ⟨-, hb9⟩ := ‹_ ∧ _›
          have HB9 : Hid _ := hb9
          clear hb9
          go_wp2_with fail
          refine ⟨⟨k + 1, zz, F', C', by omega, by go_num, by first | rfl | go_num, HPZ.out, HP.out.1.ch (Ch.of_below F' HB9.out) (HP.out.1.so.below HB9.out), HP.out.2.1.ch (Ch.of_below F' HB9.out), HP.out.2.2⟩, by simp [intOf]; omega⟩
        · have hrI : ¬ (mo : Int) < (zz : Int) + (nc : Int) + 2 := by omega
          have hadd : addF mo C x = ((C.length : Int), 0, C ++ [dd x]) := by
            unfold addF
            rw [if_neg (by omega), if_neg (by rw [← HZZ.out, ← hDD, ← HNC.out]; omega)]
          have hee : ee = 0 := by rw [HRF.out.2.1, hadd]
          have hrf : rf = (nq : Int) := by rw [HRF.out.1, hadd, HNQ.out]
          have HCC : Hid (C' = C ++ [D]) := by unfold Hid; rw [HRF.out.2.2, hadd, hDD]
          subst hee hrf
          clear hEE hDD hadd
          go_wp2_with fail
          refine Calls.mono HIN.out ?_
          rintro ev w6 ⟨rfl, hb6⟩
          have HSP : Hid _ := spoil_any (B := wr.heap.size) (row_own HIn4.out fun q e => hb6.block q (World.ownsRow.lt HIn4.out q e).2) (by have := HXL.out; omega)
          have HB6 : Hid (Below w5.heap.size w5 w6) := hb6
          clear hb6 HIN hcr hrr
          go_wp2_with fail
          refine Calls.mono HSP.out ?_
          rintro ev w7 ⟨rfl, hg7, hz7⟩
          have hP7 := pl_spoil hH.out.1 hH.out.2.1 HI3.out.2 HI3.out.1 HS4.out.2.1 HS4.out.1 (HI5.out.2.trans (HB6.out.mono HI5.out.2.size)) hg7 hz7
          have HP7 : Hid (Kn w2 w7 F' s mo C' ∧ Ll w7 F' w2.heap.size (.slice aq nq cq) C) := ⟨hP7.1, hP7.2.1⟩
          have HU7 : Hid (Is' w7 w4.heap.size (.slice ac nc kc) D) := hP7.2.2 HI5.out.1 (row_own HI5.out.1 fun q e => HB6.out.block q (World.ownsRow.lt HI5.out.1 q e).2)
          clear hP7 hg7 hz7 HSP
          obtain ⟨us, hus, husl, hu3, hu4⟩ := HP7.out.2.ex
          have HUX : Hid _ := And.intro hus (And.intro husl (And.intro hu3 hu4))
          clear hu3 hu4
          have HUS : Hid (w7.ownsRow w2.heap.size 27 1 (.slice aq nq cq) nq us ∧ us.length = nq) := by
            have e1 : us.length = nq := by rw [husl, HNQ.out]
            exact ⟨by rw [← e1]; exact e1 ▸ hus, e1⟩
          clear hus husl
          have hz7 := HP7.out.1.bel.size
          have hz4 := HS4.out.2.2.size
          go_wp2_with (at_builtin; refine wpList_append_own_at _ rfl _ _ 22 rfl w2.heap.size 27 ti (.slice none 0 0) 1 24 underLists HI.out.1 HI.out.2.1 HI.out.2.2.1 HI.out.2.2.2 rfl (by decide) (.slice aq nq cq) nq us rfl (row_kept HUS.out.1 (fun _ hq => heap_alloc_old _ _ hq)) ⟨w7.heap.size, 0, none⟩ 1 1 [.slice ac nc kc] rfl rfl (cell_one_new _ _ _) (by intro y hy; rw [List.mem_singleton.1 hy]; rfl) (by unfold maxLen; omega) (by omega) (by rw [size_alloc']; omega) ?_; intro v8 w8 hown hgrow hnil hat; have HOW : Hid _ := And.intro hown (And.intro hgrow hat); obtain ⟨r8, k8, hv8⟩ := app_slice hown; subst hv8; clear hown hgrow hnil hat)
          obtain ⟨hown, hgrow, hat⟩ := HOW.out
          have hF4 : ∀ q, F' q → q < w4.heap.size := HS4.out.1.lt
          have hL8 : Ll w8 F' w2.heap.size (.slice (some ⟨r8, 0, none⟩) (nq + 1) k8) C' := by
            rw [HCC.out]
            exact Ll.app HUX.out (fun q hq => HP7.out.1.so.lt q hq) (own_mono HU7.out hz4) (fun q e hf => by
              have h1 := (World.ownsRow.lt HU7.out q e).1
              have h2 := hF4 q hf
              omega) hgrow (by rw [HUS.out.2]; exact hown) hat
          have hg8 := grown_of hgrow
          have hS8 : So w8 F' s mo C' := HP7.out.1.so.kept hg8.size (fun q hq hf => hg8.block q hq (fun e => HUX.out.2.2.2 q e.symm hf))
          have hb8 : Below w2.heap.size w2 w8 := low_grown HP7.out.1.bel (by omega) hgrow (fun q e => (HUS.out.1.lt q e).1)
          have HP : Hid (Kn w2 w8 F' s mo C' ∧ Ll w8 F' w2.heap.size (.slice (some ⟨r8, 0, none⟩) (nq + 1) k8) C' ∧ ∀ x ∈ C', x.length ≤ 1500) := ⟨⟨hS8, hb8, HP7.out.1.low⟩, hL8, fun y hy => by
            rw [HCC.out] at hy
            rcases List.mem_append.1 hy with h | h
            · exact hH.out.2.2 y h
            · rw [List.mem_singleton.1 h]; exact HDL.out⟩
          have HPN : Hid (((nq + 1 : Nat) : Int) = (C'.length : Int) ∧ ((zz + nc + 2 : Nat) : Int) = ((ar C').length : Int)) := by
            rw [HCC.out]
            refine ⟨by rw [HNQ.out]; simp, ?_⟩
            rw [ar_snoc, HZZ.out, HNC.out]; simp; omega
          have HPZ : Hid (zz + nc + 2 = (ar C').length) := by
            unfold Hid; have := HPN.out.2; omega
          clear hown hgrow hat hL8 hg8 hS8 hb8 HOW HUX HUS HP7 hF4 hz7 hz4
          have HLN : Hid (∀ y, Below w8.heap.size w8 y → Calls Try.prog 17 #[.pointer (some ⟨s, 0, none⟩)] y fun e w' => e = .returned (.int .i64 (nq + 1 : Int)) ∧ Below y.heap.size y w') := fun y hy => by
            refine (slen_any (HP.out.1.so.below hy)).mono ?_
            rintro e w' ⟨rfl, rfl⟩
            exact ⟨by rw [← HPN.out.1] <;> rfl, Below.refl _ _⟩
          have HWD : Hid (∀ y, Below w8.heap.size w8 y → Calls Try.prog 18 #[.pointer (some ⟨s, 0, none⟩)] y fun e w' => e = .returned (.int .i64 ((zz : Int) + (nc : Int) + 2)) ∧ Below y.heap.size y w') := fun y hy => by
            refine (swords_any (HP.out.1.so.below hy)).mono ?_
            rintro e w' ⟨rfl, rfl⟩
            exact ⟨by rw [← HPN.out.2] <;> rfl, Below.refl _ _⟩
          obtain ⟨b, hb⟩ : ∃ b, b = hasF C' x := ⟨_, rfl⟩
          have HHA : Hid (∀ y, Below w8.heap.size w8 y → Calls Try.prog 19 #[.pointer (some ⟨s, 0, none⟩), .slice au nu cu] y fun e w' => e = .returned (.bool b) ∧ Below y.heap.size y w') := fun y hy => by
            rw [hb]
            exact has_any (HP.out.1.so.below hy) (HSU.out _ (HP.out.1.bel.trans (hy.mono HP.out.1.bel.size))) (by have := HXL.out; omega)
          have HHB : Hid (∀ y, Below w8.heap.size w8 y → Calls Try.prog 20 #[.slice (some ⟨r8, 0, none⟩) (nq + 1) k8, .slice au nu cu] y fun e w' => e = .returned (.bool b) ∧ Below y.heap.size y w') := fun y hy => by
            rw [hb, has_pure HP.out.1.so.ok]
            exact has11_any (HP.out.2.1.ch (Ch.of_below F' hy)) (fun k hk => Nat.lt_of_lt_of_le (HP.out.1.so.lt k hk) hy.size) (HSU.out _ (HP.out.1.bel.trans (hy.mono HP.out.1.bel.size))) (by have := HXL.out; omega) HP.out.1.so.len.1 (fun y hy => Nat.le_trans (HP.out.2.2 y hy) (by decide))
          obtain ⟨hcr, hrr⟩ := HCU.out _ HP.out.1.bel
          have e1 : (b == b) = true := by simp
          have HBW : Hid (Below w8.heap.size w8 w8) := Below.refl _ _
          clear hb
          go_wp2_with fail
          go_region_held3 (fun y => y.cell? ⟨r, o + k, none⟩ = some (.slice au nu cu) ∧ Below w8.heap.size w8 y)
            ((first | (obtain ⟨q0, q2⟩ := ‹_ ∧ _›; with_reducible exact ⟨keep_cell hbk q0, below_step q2 hbk⟩) | exact ⟨hcr, drew_low _ _⟩))
            ((first | (go_at_call 17; have qq := ‹_ ∧ _›; refine (HLN.out _ qq.2).mono ?_; rintro e wz ⟨rfl, hbk⟩) | (go_at_call 18; have qq := ‹_ ∧ _›; refine (HWD.out _ qq.2).mono ?_; rintro e wz ⟨rfl, hbk⟩) | (go_at_call 19; have qq := ‹_ ∧ _›; refine (HHA.out _ qq.2).mono ?_; rintro e wz ⟨rfl, hbk⟩) | (go_at_call 20; have qq := ‹_ ∧ _›; refine (HHB.out _ qq.2).mono ?_; rintro e wz ⟨rfl, hbk⟩)))
          obtain ⟨-, hb9⟩ := ‹_ ∧ _›
          have HB9 : Hid _ := hb9
          clear hb9
          go_wp2_with fail
          refine ⟨⟨k + 1, zz + nc + 2, F', C', by omega, by go_num, by first | rfl | go_num, HPZ.out, HP.out.1.ch (Ch.of_below F' HB9.out) (HP.out.1.so.below HB9.out), HP.out.2.1.ch (Ch.of_below F' HB9.out), HP.out.2.2⟩, by simp [intOf]; omega⟩
      · have hEb : (E == 0) = false := by simp [hE0]
        have hee : ee = E := by
          rw [HRF.out.2.1]; unfold addF
          rw [if_pos (by rw [← HE.out.1]; exact hE0)]; exact HE.out.1.symm
        subst hee
        go_wp2_with fail
        refine Calls.mono HIN.out ?_
        rintro ev w6 ⟨rfl, hb6⟩
        have HSP : Hid _ := spoil_any (B := wr.heap.size) (row_own HIn4.out fun q e => hb6.block q (World.ownsRow.lt HIn4.out q e).2) (by have := HXL.out; omega)
        have HB6 : Hid (Below w5.heap.size w5 w6) := hb6
        clear hb6 HIN hcr hrr
        go_wp2_with fail
        refine Calls.mono HSP.out ?_
        rintro ev w7 ⟨rfl, hg7, hz7⟩
        have hP7 := pl_spoil hH.out.1 hH.out.2.1 HI3.out.2 HI3.out.1 HS4.out.2.1 HS4.out.1 (HI5.out.2.trans (HB6.out.mono HI5.out.2.size)) hg7 hz7
        have HP7 : Hid (Kn w2 w7 F' s mo C' ∧ Ll w7 F' w2.heap.size (.slice aq nq cq) C) := ⟨hP7.1, hP7.2.1⟩
        have HU7 : Hid (Is' w7 w4.heap.size (.slice ac nc kc) D) := hP7.2.2 HI5.out.1 (row_own HI5.out.1 fun q e => HB6.out.block q (World.ownsRow.lt HI5.out.1 q e).2)
        clear hP7 hg7 hz7 HSP
        have hCC : C' = C := by rw [HRF.out.2.2]; exact addF_no (by rw [← HRF.out.2.1]; omega)
        have HP : Hid (Kn w2 w7 F' s mo C' ∧ Ll w7 F' w2.heap.size (.slice aq nq cq) C' ∧ ∀ x ∈ C', x.length ≤ 1500) := by
          rw [hCC]
          exact ⟨hCC ▸ HP7.out.1, HP7.out.2, hH.out.2.2⟩
        have HPN : Hid ((nq : Int) = (C'.length : Int) ∧ (zz : Int) = ((ar C').length : Int)) := by
          rw [hCC]; exact ⟨by rw [HNQ.out], by rw [HZZ.out]⟩
        have HPZ : Hid (zz = (ar C').length) := by
          rw [hCC]; exact HZZ.out
        clear hCC HP7
        have HLN : Hid (∀ y, Below w7.heap.size w7 y → Calls Try.prog 17 #[.pointer (some ⟨s, 0, none⟩)] y fun e w' => e = .returned (.int .i64 (nq : Int)) ∧ Below y.heap.size y w') := fun y hy => by
          refine (slen_any (HP.out.1.so.below hy)).mono ?_
          rintro e w' ⟨rfl, rfl⟩
          exact ⟨by rw [← HPN.out.1] <;> rfl, Below.refl _ _⟩
        have HWD : Hid (∀ y, Below w7.heap.size w7 y → Calls Try.prog 18 #[.pointer (some ⟨s, 0, none⟩)] y fun e w' => e = .returned (.int .i64 (zz : Int)) ∧ Below y.heap.size y w') := fun y hy => by
          refine (swords_any (HP.out.1.so.below hy)).mono ?_
          rintro e w' ⟨rfl, rfl⟩
          exact ⟨by rw [← HPN.out.2] <;> rfl, Below.refl _ _⟩
        obtain ⟨b, hb⟩ : ∃ b, b = hasF C' x := ⟨_, rfl⟩
        have HHA : Hid (∀ y, Below w7.heap.size w7 y → Calls Try.prog 19 #[.pointer (some ⟨s, 0, none⟩), .slice au nu cu] y fun e w' => e = .returned (.bool b) ∧ Below y.heap.size y w') := fun y hy => by
          rw [hb]
          exact has_any (HP.out.1.so.below hy) (HSU.out _ (HP.out.1.bel.trans (hy.mono HP.out.1.bel.size))) (by have := HXL.out; omega)
        have HHB : Hid (∀ y, Below w7.heap.size w7 y → Calls Try.prog 20 #[.slice aq nq cq, .slice au nu cu] y fun e w' => e = .returned (.bool b) ∧ Below y.heap.size y w') := fun y hy => by
          rw [hb, has_pure HP.out.1.so.ok]
          exact has11_any (HP.out.2.1.ch (Ch.of_below F' hy)) (fun k hk => Nat.lt_of_lt_of_le (HP.out.1.so.lt k hk) hy.size) (HSU.out _ (HP.out.1.bel.trans (hy.mono HP.out.1.bel.size))) (by have := HXL.out; omega) HP.out.1.so.len.1 (fun y hy => Nat.le_trans (HP.out.2.2 y hy) (by decide))
        obtain ⟨hcr, hrr⟩ := HCU.out _ HP.out.1.bel
        have e1 : (b == b) = true := by simp
        have HBW : Hid (Below w7.heap.size w7 w7) := Below.refl _ _
        clear hb
        go_wp2_with fail
        go_region_held3 (fun y => y.cell? ⟨r, o + k, none⟩ = some (.slice au nu cu) ∧ Below w7.heap.size w7 y)
          ((first | (obtain ⟨q0, q2⟩ := ‹_ ∧ _›; with_reducible exact ⟨keep_cell hbk q0, below_step q2 hbk⟩) | exact ⟨hcr, drew_low _ _⟩))
          ((first | (go_at_call 17; have qq := ‹_ ∧ _›; refine (HLN.out _ qq.2).mono ?_; rintro e wz ⟨rfl, hbk⟩) | (go_at_call 18; have qq := ‹_ ∧ _›; refine (HWD.out _ qq.2).mono ?_; rintro e wz ⟨rfl, hbk⟩) | (go_at_call 19; have qq := ‹_ ∧ _›; refine (HHA.out _ qq.2).mono ?_; rintro e wz ⟨rfl, hbk⟩) | (go_at_call 20; have qq := ‹_ ∧ _›; refine (HHB.out _ qq.2).mono ?_; rintro e wz ⟨rfl, hbk⟩)))
        obtain ⟨-, hb9⟩ := ‹_ ∧ _›
        have HB9 : Hid _ := hb9
        clear hb9
        go_wp2_with fail
        refine ⟨⟨k + 1, zz, F', C', by omega, by go_num, by first | rfl | go_num, HPZ.out, HP.out.1.ch (Ch.of_below F' HB9.out) (HP.out.1.so.below HB9.out), HP.out.2.1.ch (Ch.of_below F' HB9.out), HP.out.2.2⟩, by simp [intOf]; omega⟩
    · obtain rfl : k = n1 := by omega
      have hltI : ¬ (k : Int) < (k : Int) := by omega
      have HH2 : Hid (Kn w2 wr F s mo C ∧ Ll wr F w2.heap.size (.slice aq nq cq) C ∧ ∀ x ∈ C, x.length ≤ 1500) := hH.out
      obtain ⟨wM, hwM⟩ : ∃ wM, wM = wr := ⟨_, rfl⟩
      subst hwM
      clear hH
      go_wp2_with fail
      go_loopw [15] (fun i wr => ∃ (j : Nat), j ≤ nq ∧ i = .int .i64 (j : Int) ∧ Hid (Kn w2 wr F s mo C ∧ Ll wr F w2.heap.size (.slice aq nq cq) C)) (fun i wr => nq - (intOf i).toNat)
      case atStart => exact ⟨0, Nat.zero_le _, rfl, HH2.out.1, HH2.out.2.1⟩
      case round =>
        obtain ⟨j, hj, rfl, hJ⟩ := hrel
        by_cases hlt2 : j < nq
        · have hltJ : (j : Int) < (nq : Int) := by omega
          obtain ⟨x, hx⟩ : ∃ x, C[j]? = some x := ⟨_, List.getElem?_eq_getElem (by rw [← HNQ.out]; exact hlt2)⟩
          have HXL : Hid (x.length ≤ 1500) := HH2.out.2.2 x (List.mem_of_getElem? hx)
          have HCY : Hid _ := clause_yes hJ.out.1.so hx
          obtain ⟨ra, y, haa, hcy, hIy⟩ := hJ.out.2.at' hx
          subst haa
          obtain ⟨ay, ny, ky, hye, -⟩ := own_sl hIy
          subst hye
          have HIY : Hid (Is' wr w2.heap.size (.slice ay ny ky) x) := hIy
          have hra : ra < wr.heap.size := World.block_lt_of_cell? _ _ hcy
          clear hx hIy
          go_wp2_with fail
          refine Calls.mono HCY.out ?_
          rintro ev w12 ⟨u, rfl, hu, hb12⟩
          have HU : Hid (Is' w12 wr.heap.size u x ∧ Below wr.heap.size wr w12) := ⟨hu, hb12⟩
          have hcy2 := bel_cell hb12 hra hcy
          have hra2 : ra < w12.heap.size := Nat.lt_of_lt_of_le hra hb12.size
          have HIN : Hid _ := ints_sr (hu.sf_low (F := fun _ => False) (fun _ h => h.elim)).sr ((HIY.out.sf_low (F := fun _ => False) (fun _ h => h.elim)).sr.below hb12) (by have := HXL.out; omega) (by have := HXL.out; omega)
          rw [decide_eq_true (rfl : x = x)] at HIN
          obtain ⟨au, nu, ku, hue, -⟩ := own_sl hu
          subst hue
          clear hu hb12 HCY hcy hra
          go_wp2_with fail
          refine Calls.mono HIN.out ?_
          rintro ev w13 ⟨rfl, hb13⟩
          have HSP : Hid _ := spoil_any (B := wr.heap.size) (row_own HU.out.1 fun q e => hb13.block q (World.ownsRow.lt HU.out.1 q e).2) (by have := HXL.out; omega)
          have HB13 : Hid (Below wr.heap.size wr w13) := HU.out.2.trans (hb13.mono HU.out.2.size)
          clear hb13 HIN hcy2 hra2
          go_wp2_with fail
          refine Calls.mono HSP.out ?_
          rintro ev w14 ⟨rfl, hg14, hz14⟩
          have HB14 : Hid (Below wr.heap.size wr w14) := keep_grown HB13.out HU.out.1 hg14
          clear hg14 hz14 HSP
          go_wp2_with fail
          exact ⟨⟨j + 1, by omega, by go_num, hJ.out.1.ch (Ch.of_below F HB14.out) (hJ.out.1.so.below HB14.out), hJ.out.2.ch (Ch.of_below F HB14.out)⟩, by simp [intOf]; omega⟩
        · obtain rfl : j = nq := by omega
          have hltJ : ¬ (j : Int) < (j : Int) := by omega
          have HN : Hid _ := clause_no hJ.out.1.so (k := (j : Int)) (Or.inr (by rw [HNQ.out]; omega))
          go_wp2_with fail
          refine Calls.mono HN.out ?_
          rintro ev w12 ⟨rfl, hb12⟩
          have HM : Hid _ := clause_no (hJ.out.1.so.below hb12) (k := -1) (Or.inl (by decide))
          have HB12 : Hid (Below w2.heap.size w2 w12) := hJ.out.1.bel.trans (hb12.mono hJ.out.1.bel.size)
          clear hb12 HN
          go_wp2_with fail
          refine Calls.mono HM.out ?_
          rintro ev w13 ⟨rfl, hb13⟩
          have HB13 : Hid (Below w2.heap.size w2 w13) := HB12.out.trans (hb13.mono HB12.out.size)
          clear hb13 HM
          go_wp2_with fail
          refine bodyPost_ret (results_tmp rfl _ _ _) rfl ?_
          exact ⟨rfl, HB1.out.trans (HB13.out.mono HB1.out.size)⟩
theorem plays_law (most : Int) (W : World) (_ : (Lit.int .i64 most).wf = true) {vl : Value} {L : List (List Int)} (hL : Lr W vl L) (_ : ∀ c ∈ L, ∀ y ∈ c, w64 y) (hB : L.length ≤ 70368744177664 ∧ ∀ c ∈ L, c.length ≤ 70368744177664) :
    Calls Try.prog 3 #[.int .i64 most, vl] W fun ev w' => ev = .returned (.bool true) ∧ Below W.heap.size W w' := plays_any most W hL hB.1 hB.2
end Go.Proofs.Ytkndjndhjdfhcaa
