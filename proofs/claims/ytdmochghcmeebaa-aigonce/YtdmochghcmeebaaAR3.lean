/- The law AigOnce, walked. -/
import Derived.Test.YtdmochghcmeebaaAG16
import Derived.Test.YtdmochghcmeebaaAR1
namespace Go.Proofs.Ytdmochghcmeebaa
open Go.RowKit
set_option linter.unusedSimpArgs false
set_option linter.unusedVariables false

theorem insL_lt {ks : List Kd} (h : 0 < ks.length) : (insL ks).length + 1 ≤ ks.length := by
  cases ks with
  | nil => simp at h
  | cons k r =>
    unfold insL
    rw [List.mapIdx_cons, List.filterMap_cons, if_neg (by simp)]
    have := List.length_filterMap_le (fun x : Kd × Nat => if x.1 = (0, 0) ∧ x.2 ≠ 0 then some (2 * (x.2 : Int)) else none) (List.mapIdx (fun i k => (k, i + 1)) r)
    simp only [List.length_mapIdx] at this
    simp only [List.length_cons]
    omega
/-- Where an input or an and is refused, nothing has turned. -/
theorem do_err {mo : Nat} {ks : List Kd} {what a b c : Int} (h4 : what < 4) (h : (doF mo ks what a b c).2.1 ≠ 0) : (doF mo ks what a b c).2.2 = ks := by
  have both : ∀ k, (bothF mo ks k).2.1 ≠ 0 → (bothF mo ks k).2.2 = ks := fun k h => by
    unfold bothF at h ⊢
    cases hf : ks.findIdx? (fun l => decide (l = k)) with
    | some i => rfl
    | none =>
      rw [hf] at h
      dsimp only at h ⊢
      by_cases hr : ks.length = mo + 1
      · rw [if_pos hr]
      · rw [if_neg hr] at h; exact absurd rfl h
  unfold doF at h ⊢
  by_cases h0 : what = 0
  · rw [if_pos h0] at h ⊢
    unfold inpF at h ⊢
    by_cases hr : ks.length = mo + 1
    · rw [if_pos hr]
    · rw [if_neg hr] at h; exact absurd rfl h
  · rw [if_neg h0] at h ⊢
    by_cases c1 : what = 1 ∨ what = 2 ∨ what = 3
    · rw [if_pos c1] at h ⊢
      unfold andF at h ⊢
      split
      · next hv =>
        rw [if_pos hv] at h
        split
        · rfl
        · next d1 =>
          rw [if_neg d1] at h
          split
          · rfl
          · next d2 =>
            rw [if_neg d2] at h
            exact both _ h
      · rfl
    · rw [if_neg c1, if_neg (by omega), if_neg (by omega), if_neg (by omega)]
theorem room_max {most : Int} {N : Nat} (h : N ≤ roomOf most + 1) : (most < 1 → (N : Int) - 1 ≤ 1) ∧ (1 ≤ most → (N : Int) - 1 ≤ most) := by
  unfold roomOf at h
  omega

set_option maxRecDepth 20000 in
set_option maxHeartbeats 12800000 in
theorem walk_once (most : Int) (W : World) {a : Option Addr} {c : Nat} {l : List St} (hLa : La W a l) (hOk : ∀ s ∈ l, Sk s) (hmx : l.length ≤ maxLen) {b : Option Addr} {cb : Nat} {il : List Bool} (hBz : Bz W (.slice b il.length cb) il) (hil : il.length ≤ 140737488351232) :
    Calls Try.prog 5 #[.int .i64 most, .slice a l.length c, .slice b il.length cb] W fun e W' => e = .returned (.bool true) ∧ Below W.heap.size W W' := by
  have HLA : Hid _ := hLa
  have HOK : Hid _ := hOk
  have HBZ0 : Hid _ := hBz
  obtain ⟨n, en⟩ : ∃ n, n = l.length := ⟨_, rfl⟩
  have HN : Hid _ := en
  rw [← en] at hmx ⊢
  obtain ⟨L, eL⟩ : ∃ L, L = il.length := ⟨_, rfl⟩
  have HLL : Hid _ := eL
  rw [← eL] at hil ⊢
  have hmx' : (n : Int) ≤ 9223372036854775807 := by unfold maxLen at hmx; omega
  clear hLa hOk en hmx hBz eL
  by_cases hlong : (200 : Int) < (n : Int)
  · go_enter Try.func5, Try.ntmps5
    go_wp2_with fail
    refine (known_any _).mono ?_
    rintro e wk ⟨rfl, hbk⟩
    go_wp2_with fail
    go_ret
    exact ⟨rfl, hbk⟩
  obtain ⟨t4, h40, h41, h42, h43⟩ := info_any infoBool
  have HI4 : Hid (Try.prog.info? 4 = some t4 ∧ t4.zero = some (.bool false) ∧ t4.size = 1 ∧ t4.bytes = 1) := ⟨h40, h41, h42, h43⟩
  clear h40 h41 h42 h43
  obtain ⟨mo, emo⟩ : ∃ mo, mo = roomOf most := ⟨_, rfl⟩
  have HMO : Hid (∀ N : Nat, N ≤ mo + 1 → (most < 1 → (N : Int) - 1 ≤ 1) ∧ (1 ≤ most → (N : Int) - 1 ≤ most)) := fun N h => room_max (by rw [← emo]; exact h)
  go_enter Try.func5, Try.ntmps5
  go_wp2_with fail
  refine (known_any _).mono ?_
  rintro e wg ⟨rfl, hbk⟩
  go_wp2_with fail
  refine (gnew_any most _).mono ?_
  rintro e w0 ⟨rfl, hbg, hsg, hG⟩
  have hwg := hbk.size
  obtain ⟨G, eG⟩ : ∃ G, G = wg.heap.size + 2 := ⟨_, rfl⟩
  rw [← eG, ← emo] at hG
  rw [← eG]
  have HG0 : Hid (GB w0 W.heap.size G mo [(0, 0)]) := Gr.mono hG (fun k hk => Nat.le_trans hwg hk.1)
  have hb0 : Below W.heap.size W w0 := hbk.trans (hbg.mono hwg)
  clear hG hbk hbg hsg eG hwg emo
  go_wp2_with fail
  go_loopw [8] (fun i wr => ∃ k : Nat, k ≤ n ∧ i = .int .i64 (k : Int) ∧ ∃ ks, GB wr W.heap.size G mo ks ∧ ks.length ≤ 1 + 3 * k ∧ Below W.heap.size W wr) (fun i wr => n - (intOf i).toNat)
  case atStart => exact ⟨0, Nat.zero_le _, rfl, _, HG0.out, by simp, hb0⟩
  case round =>
    obtain ⟨k, hk, rfl, ks, hG, hks, hbl⟩ := hrel
    have HG : Hid _ := hG
    have hlen := hG.len
    have hpos := (Gr.inv hG).pos
    clear hG HG0 hb0
    have hwr := hbl.size
    by_cases hkn : k < n
    · obtain ⟨s, hs⟩ : ∃ s, l[k]? = some s := ⟨_, List.getElem?_eq_getElem (by rw [← HN.out]; exact hkn)⟩
      obtain ⟨ga, oa, rfl, hga, hLn⟩ := HLA.out.resolve_left (fun e => by have := HN.out; rw [e] at this; simp at this; omega)
      have hsk := HOK.out s (List.mem_of_getElem? hs)
      have hB0 : Below W.heap.size W wr := hbl
      have HD0 : Hid (W.cell? ⟨ga, oa + k * 5, none⟩ = some (.int .i64 s.what)) := hLn k s hs 0 _ rfl
      have d0 : wr.cell? ⟨ga, oa + k * 5, none⟩ = some (.int .i64 s.what) := keep_cell hB0 (hLn k s hs 0 _ rfl)
      have d1 : wr.cell? ⟨ga, oa + k * 5 + 1, none⟩ = some (.int .i64 s.a) := keep_cell hB0 (hLn k s hs 1 _ rfl)
      have d2 : wr.cell? ⟨ga, oa + k * 5 + 2, none⟩ = some (.int .i64 s.b) := keep_cell hB0 (hLn k s hs 2 _ rfl)
      have d3 : wr.cell? ⟨ga, oa + k * 5 + 3, none⟩ = some (.int .i64 s.c) := keep_cell hB0 (hLn k s hs 3 _ rfl)
      have d4 : wr.cell? ⟨ga, oa + k * 5 + 4, none⟩ = some (.bool s.near) := keep_cell hB0 (hLn k s hs 4 _ rfl)
      have hki : (k : Int) < (n : Int) := by omega
      have hk2 : (k : Int) < 40000 := by omega
      have HNO : Hid (∀ x, Below wr.heap.size wr x → Calls Try.prog 13 #[.pointer (some ⟨G, 0, none⟩)] x fun e y => e = .returned (.int .i64 ((ks.length : Int) - 1)) ∧ Below x.heap.size x y) := fun x hx => (nodes_any (GB.below HG.out hx)).mono fun e y ⟨h1, h2⟩ => ⟨h1, by rw [h2]; exact Below.refl _ _⟩
      have HLI : Hid (∀ x, Calls Try.prog 10 #[.agg #[.int .i64 s.what, .int .i64 s.a, .int .i64 s.b, .int .i64 s.c, .bool s.near], .int .i64 ((ks.length : Int) - 1)] x fun e y => e = .returned (.tuple #[.int .i64 (liF s ks.length).1, .int .i64 (liF s ks.length).2.1, .int .i64 (liF s ks.length).2.2]) ∧ Below x.heap.size x y) := fun x => lits_any s hpos (by omega) x
      have hli := li_w64 hsk hpos (by omega)
      obtain ⟨⟨A, B, C⟩, hABC⟩ : ∃ r, r = liF s ks.length := ⟨_, rfl⟩
      rw [← hABC] at HLI hli
      dsimp only at HLI hli
      clear hLn hs hABC hsk
      go_wp2_with fail
      refine wp_named fun a0 ha0 => ?_
      have o1 := old_at ha0 (t := 1) rfl
      have o7 := old_at ha0 (t := 7) rfl
      have o8 := old_at ha0 (t := 8) rfl
      refine wp_region_lin (S := SS wr wr.heap.size [] []) [] (fun _ => 0) (by kernel_rfl) (by kernel_rfl) (by rw [← ha0]; kernel_rfl) (SS.start (Below.refl _ _) (fun p hp => by cases hp)) ?_
      apply LinAll.cons0
      · intro g5 L5 a5 x hLi haft hS hK; have t1 := (hK.old 1 (by kernel_rfl)).trans o1; (try dsimp only at t1); refine go_in (wanted_all rfl) ?_; intro K hk; have hBx := hS.below; clear haft hK hLi; go_simp; exact hS.go hk rfl
      apply LinAll.cons0
      · intro g5 L5 a5 x hLi haft hS hK; have t8 := (hK.old 8 (by kernel_rfl)).trans o8; (try dsimp only at t8); refine go_in (wanted_all rfl) ?_; intro K hk; have hBx := hS.below; clear haft hK hLi; go_simp; exact hS.go hk rfl
      apply LinAll.cons0
      · intro g5 L5 a5 x hLi haft hS hK; have t41 := hK.new 0 1 _ 41 _ rfl rfl rfl (by kernel_rfl) (waits haft 0 (by kernel_rfl)); have t42 := hK.new 1 0 _ 42 _ rfl rfl rfl (by kernel_rfl) (waits haft 1 (by kernel_rfl)); (try dsimp only at t41 t42); refine go_in (wanted_all rfl) ?_; intro K hk; have hBx := hS.below; clear haft hK hLi; go_simp; exact hS.go hk rfl
      apply LinAll.cons0
      · intro g5 L5 a5 x hLi haft hS hK; have t43 := hK.new 2 0 _ 43 _ rfl rfl rfl (by kernel_rfl) (waits haft 2 (by kernel_rfl)); (try dsimp only at t43); refine go_in (wanted_all rfl) ?_; intro K hk; have hBx := hS.below; have c0 := keep_cell hBx d0; have c1 := keep_cell hBx d1; have c2 := keep_cell hBx d2; have c3 := keep_cell hBx d3; have c4 := keep_cell hBx d4; clear haft hK hLi; go_simp; exact hS.go hk rfl
      apply LinAll.cons0
      · intro g5 L5 a5 x hLi haft hS hK; have t7 := (hK.old 7 (by kernel_rfl)).trans o7; (try dsimp only at t7); refine go_in (wanted_all rfl) ?_; intro K hk; have hBx := hS.below; clear haft hK hLi; go_simp; exact hS.go hk rfl
      apply LinAll.cons0
      · intro g5 L5 a5 x hLi haft hS hK; have t45 := hK.new 4 0 _ 45 _ rfl rfl rfl (by kernel_rfl) (waits haft 4 (by kernel_rfl)); (try dsimp only at t45); refine go_in (wanted_all rfl) ?_; intro K hk; have hBx := hS.below; clear haft hK hLi; go_simp; refine Calls.mono (HNO.out x hBx) ?_; rintro e y ⟨rfl, hb⟩; exact hS.on hk hb rfl
      apply LinAll.cons0
      · intro g5 L5 a5 x hLi haft hS hK; have t44 := hK.new 3 2 _ 44 _ rfl rfl rfl (by kernel_rfl) (waits haft 3 (by kernel_rfl)); have t46 := hK.new 5 0 _ 46 _ rfl rfl rfl (by kernel_rfl) (waits haft 5 (by kernel_rfl)); (try dsimp only at t44 t46); refine go_in (wanted_all rfl) ?_; intro K hk; have hBx := hS.below; clear haft hK hLi; go_simp; refine Calls.mono (HLI.out x) ?_; rintro e y ⟨rfl, hb⟩; exact hS.on hk hb rfl
      apply LinAll.cons0
      · intro g5 L5 a5 x hLi haft hS hK; have t47 := hK.new 6 0 _ 47 _ rfl rfl rfl (by kernel_rfl) (waits haft 6 (by kernel_rfl)); (try dsimp only at t47); refine go_in (wanted_all rfl) ?_; intro K hk; have hBx := hS.below; clear haft hK hLi; go_simp; exact hS.go hk rfl
      apply LinAll.cons0
      · intro g5 L5 a5 x hLi haft hS hK; have t40 := hK.new 7 0 _ 40 _ rfl rfl rfl (by kernel_rfl) (waits haft 7 (by kernel_rfl)); (try dsimp only at t40); refine go_in (wanted_all rfl) ?_; intro K hk; have hBx := hS.below; clear haft hK hLi; go_simp; exact hS.go hk rfl
      apply LinAll.cons0
      · intro g5 L5 a5 x hLi haft hS hK; have t40 := hK.new 7 1 _ 40 _ rfl rfl rfl (by kernel_rfl) (waits haft 7 (by kernel_rfl)); (try dsimp only at t40); refine go_in (wanted_all rfl) ?_; intro K hk; have hBx := hS.below; clear haft hK hLi; go_simp; exact hS.go hk rfl
      apply LinAll.cons0
      · intro g5 L5 a5 x hLi haft hS hK; have t40 := hK.new 7 2 _ 40 _ rfl rfl rfl (by kernel_rfl) (waits haft 7 (by kernel_rfl)); (try dsimp only at t40); refine go_in (wanted_all rfl) ?_; intro K hk; have hBx := hS.below; clear haft hK hLi; go_simp; exact hS.go hk rfl
      apply LinAll.cons0
      · intro g5 L5 a5 x hLi haft hS hK; have t48 := hK.new 8 2 _ 48 _ rfl rfl rfl (by kernel_rfl) (waits haft 8 (by kernel_rfl)); (try dsimp only at t48); refine go_in (wanted_all rfl) ?_; intro K hk; have hBx := hS.below; clear haft hK hLi; go_simp; exact hS.go hk rfl
      apply LinAll.cons0
      · intro g5 L5 a5 x hLi haft hS hK; have t49 := hK.new 9 2 _ 49 _ rfl rfl rfl (by kernel_rfl) (waits haft 9 (by kernel_rfl)); (try dsimp only at t49); refine go_in (wanted_all rfl) ?_; intro K hk; have hBx := hS.below; clear haft hK hLi; go_simp; exact hS.go hk rfl
      apply LinAll.cons0
      · intro g5 L5 a5 x hLi haft hS hK; have t50 := hK.new 10 2 _ 50 _ rfl rfl rfl (by kernel_rfl) (waits haft 10 (by kernel_rfl)); (try dsimp only at t50); refine go_in (wanted_all rfl) ?_; intro K hk; have hBx := hS.below; clear haft hK hLi; go_simp; exact hS.go hk rfl
      refine LinAll.nil fun g5 x hS => ?_
      subst ha0
      simp only [Act.put, List.setIfInBounds_toArray, List.set_cons_zero, List.set_cons_succ]
      clear o1 o7 o8
      have hBx := hS.below
      clear hS
      have HG1 : Hid _ := GB.below HG.out hBx
      have hbx : Below W.heap.size W x := hbl.trans (hBx.mono hwr)
      have hsx := hbx.size
      obtain ⟨NN, eNN⟩ : ∃ NN, NN = (ks.length : Int) - 1 := ⟨_, rfl⟩
      have HNX : Hid (Calls Try.prog 13 #[.pointer (some ⟨G, 0, none⟩)] x fun e y => e = .returned (.int .i64 NN) ∧ y = x) := by rw [eNN]; exact nodes_any HG1.out
      have c0 : x.cell? ⟨ga, oa + k * 5, none⟩ = some (.int .i64 s.what) := keep_cell hbx HD0.out
      have HDO : Hid _ := does_any (mo := mo) (what := s.what) HG1.out hli.1 hli.2.1 hli.2.2
      have HPR0 : Hid _ := do_pre (mo := mo) (ks := ks) (what := s.what) (a := A) (b := B) (c := C)
      have HER : Hid (s.what < 4 → (doF mo ks s.what A B C).2.1 ≠ 0 → (doF mo ks s.what A B C).2.2 = ks) := fun h h2 => do_err h h2
      obtain ⟨R, hR⟩ : ∃ R, R = doF mo ks s.what A B C := ⟨_, rfl⟩
      rw [← hR] at HDO HER HPR0
      obtain ⟨x0, hx0⟩ : ∃ x0, x0 = s.what := ⟨_, rfl⟩
      rw [← hx0] at c0 HDO HD0 HER
      have HNN : Hid _ := eNN
      clear d0 d1 d2 d3 d4 HLI HNO HG hBx hB0 hbl hR hx0 HG1 hli hwr hlen eNN
      go_wp2_with fail
      refine Calls.mono HNX.out ?_
      rintro e wz ⟨rfl, hw⟩
      rw [hw]
      clear hw wz HNX
      go_wp2_with fail
      refine Calls.mono HDO.out ?_
      intro e w2 hd
      obtain ⟨rfl, hG3, hb⟩ := Did.low hd hsx
      have HG3 : Hid _ := hG3
      have hb2 : Below W.heap.size W w2 := hbx.trans hb
      have d02 : w2.cell? ⟨ga, oa + k * 5, none⟩ = some (.int .i64 x0) := keep_cell hb2 HD0.out
      obtain ⟨l0, er, ks2⟩ := R
      dsimp only at HER HG3 HPR0 ⊢
      have HPR : Hid (ks2.length ≤ 1 + 3 * (k + 1)) := by have := HPR0.out.2; unfold Hid; omega
      clear HPR0
      have hlen2 := GB.len HG3.out
      obtain ⟨hm1, hm2⟩ := HMO.out ks2.length hlen2.1
      obtain ⟨N2, eN2⟩ : ∃ N2, N2 = (ks2.length : Int) - 1 := ⟨_, rfl⟩
      have HN2 : Hid (Calls Try.prog 13 #[.pointer (some ⟨G, 0, none⟩)] w2 fun e y => e = .returned (.int .i64 N2) ∧ y = w2) := by rw [eN2]; exact nodes_any HG3.out
      rw [← eN2] at hm1 hm2
      have HQ : Hid (x0 < 4 → er ≠ 0 → N2 = NN) := fun h1 h2 => by rw [eN2, HNN.out, HER.out h1 h2]
      have HM1 : Hid _ := hm1
      have HM2 : Hid _ := hm2
      clear hG3 hd hb HDO c0 hbx hsx HER hlen2 hm1 hm2 eN2
      by_cases her : er = 0
      · subst her
        by_cases hmo : most < 1
        · have hq : N2 ≤ 1 := HM1.out hmo
          have hqd : decide ((1 : Int) < N2) = false := decide_eq_false (by omega)
          clear HQ HM1 HM2 HNN
          go_wp2_with fail
          refine Calls.mono HN2.out ?_
          rintro e wz ⟨rfl, hw⟩
          rw [hw]
          clear hw wz
          go_wp2_with fail
          exact ⟨⟨k + 1, by omega, by go_num, ks2, HG3.out, HPR.out, hb2⟩, by simp [intOf]; omega⟩
        · have hmo' : 1 ≤ most := by omega
          have hq : N2 ≤ most := HM2.out hmo'
          have hqd : decide (most < N2) = false := decide_eq_false (by omega)
          clear hmo
          clear HQ HM1 HM2 HNN
          go_wp2_with fail
          refine Calls.mono HN2.out ?_
          rintro e wz ⟨rfl, hw⟩
          rw [hw]
          clear hw wz
          go_wp2_with fail
          exact ⟨⟨k + 1, by omega, by go_num, ks2, HG3.out, HPR.out, hb2⟩, by simp [intOf]; omega⟩
      · have zr : (er == 0) = false := by simp [her]
        have zr' : (er != 0) = true := by simp [her]
        by_cases hx4 : x0 < 4
        · have hqq := HQ.out hx4 her
          subst hqq
          have zn : (N2 == N2) = true := by simp
          have zn' : (N2 != N2) = false := by simp
          by_cases hmo : most < 1
          · have hq : N2 ≤ 1 := HM1.out hmo
            have hqd : decide ((1 : Int) < N2) = false := decide_eq_false (by omega)
            clear HQ HM1 HM2 HNN
            go_wp2_with fail
            refine Calls.mono HN2.out ?_
            rintro e wz ⟨rfl, hw⟩
            rw [hw]
            clear hw wz
            go_wp2_with fail
            refine Calls.mono HN2.out ?_
            rintro e wz ⟨rfl, hw⟩
            rw [hw]
            clear hw wz
            go_wp2_with fail
            exact ⟨⟨k + 1, by omega, by go_num, ks2, HG3.out, HPR.out, hb2⟩, by simp [intOf]; omega⟩
          · have hmo' : 1 ≤ most := by omega
            have hq : N2 ≤ most := HM2.out hmo'
            have hqd : decide (most < N2) = false := decide_eq_false (by omega)
            clear hmo
            clear HQ HM1 HM2 HNN
            go_wp2_with fail
            refine Calls.mono HN2.out ?_
            rintro e wz ⟨rfl, hw⟩
            rw [hw]
            clear hw wz
            go_wp2_with fail
            refine Calls.mono HN2.out ?_
            rintro e wz ⟨rfl, hw⟩
            rw [hw]
            clear hw wz
            go_wp2_with fail
            exact ⟨⟨k + 1, by omega, by go_num, ks2, HG3.out, HPR.out, hb2⟩, by simp [intOf]; omega⟩
        · have hx4d : decide (x0 < 4) = false := decide_eq_false hx4
          by_cases hmo : most < 1
          · have hq : N2 ≤ 1 := HM1.out hmo
            have hqd : decide ((1 : Int) < N2) = false := decide_eq_false (by omega)
            clear HQ HM1 HM2 HNN
            go_wp2_with fail
            refine Calls.mono HN2.out ?_
            rintro e wz ⟨rfl, hw⟩
            rw [hw]
            clear hw wz
            go_wp2_with fail
            exact ⟨⟨k + 1, by omega, by go_num, ks2, HG3.out, HPR.out, hb2⟩, by simp [intOf]; omega⟩
          · have hmo' : 1 ≤ most := by omega
            have hq : N2 ≤ most := HM2.out hmo'
            have hqd : decide (most < N2) = false := decide_eq_false (by omega)
            clear hmo
            clear HQ HM1 HM2 HNN
            go_wp2_with fail
            refine Calls.mono HN2.out ?_
            rintro e wz ⟨rfl, hw⟩
            rw [hw]
            clear hw wz
            go_wp2_with fail
            exact ⟨⟨k + 1, by omega, by go_num, ks2, HG3.out, HPR.out, hb2⟩, by simp [intOf]; omega⟩
    · obtain rfl : k = n := by omega
      have hki : ¬ (k : Int) < (k : Int) := by omega
      clear HLA HOK HN HMO
      have hlt := insL_lt hpos
      obtain ⟨K1, eK⟩ : ∃ K1, K1 = ks.length - 1 := ⟨_, rfl⟩
      have eKI : (ks.length : Int) - 1 = (K1 : Int) := by omega
      obtain ⟨M, eM⟩ : ∃ M, M = (insL ks).length := ⟨_, rfl⟩
      have HNO : Hid (∀ x, GB x W.heap.size G mo ks → Calls Try.prog 13 #[.pointer (some ⟨G, 0, none⟩)] x fun e y => e = .returned (.int .i64 (K1 : Int)) ∧ y = x) := fun x hx => by rw [← eKI]; exact nodes_any hx
      have hK : K1 ≤ 600 := by omega
      have hMK : M ≤ K1 := by omega
      have HKL : Hid (ks.length = K1 + 1) := by unfold Hid; omega
      have HEM : Hid _ := eM
      have HIV : Hid _ := Gr.inv HG.out
      obtain ⟨v1, w1, hr1, hB1, hg1⟩ := run_app_nil wr 23 (Bz.below HBZ0.out hbl) rfl (by rw [← HLL.out]; omega)
      rw [← HLL.out] at hr1
      have hb1 : Below wr.heap.size wr w1 := ⟨hg1.os, hg1.tape, hg1.output, hg1.size, fun q hq => hg1.block q hq (fun e => by cases e)⟩
      obtain ⟨v2, w2, hr2, hB2, hg2⟩ := run_append_zeros w1 23 hB1 K1 (by omega) (by rw [← HLL.out]; omega) hb1.size
      have hb2 : Below wr.heap.size wr w2 := hb1.trans ⟨hg2.os, hg2.tape, hg2.output, Nat.le_trans (Nat.le_refl _) hg2.size, fun q hq => hg2.block q (Nat.lt_of_lt_of_le hq hb1.size) (fun e => by have := (World.ownsRow.lt hB1 q e.symm).1; omega)⟩
      have hB2' : Bs' w2 wr.heap.size v2 (il ++ List.replicate K1 false) := by
        unfold Bs'
        rw [List.map_append, List.length_append, List.length_replicate, List.map_replicate]
        exact hB2
      obtain ⟨a2, c2, rfl, hc2, hZ2⟩ := Bs'.cut hB2' (m := M) (by simp; omega)
      rw [List.length_append, List.length_replicate, ← HLL.out] at hr2 hc2
      rw [List.length_append, List.length_replicate, ← HLL.out] at hB2'
      obtain ⟨il2, eil2⟩ : ∃ il2, il2 = (il ++ List.replicate K1 false).take M := ⟨_, rfl⟩
      rw [← eil2] at hZ2
      have HI2 : Hid (il2.length = (insL ks).length) := by unfold Hid; rw [eil2, List.length_take, List.length_append, List.length_replicate, ← eM]; omega
      have HZ2 : Hid _ := hZ2
      have HR1 : Hid _ := hr1
      have HR2 : Hid _ := hr2
      have HG1 : Hid _ := GB.below HG.out hb1
      have HG2 : Hid _ := GB.below HG.out hb2
      have hMc : (M : Int) ≤ (c2 : Int) := by omega
      have HIN : Hid _ := inputs_any HG2.out
      rw [← eM] at hlt
      have hbw2 : Below W.heap.size W w2 := hbl.trans (hb2.mono hwr)
      have hsw2 := hbw2.size
      clear hr1 hr2 hB1 hB2 hB2' hg1 hg2 hb1 hb2 hZ2 HBZ0 HLL eil2 eK eKI eM hlt hbl hwr hc2 hki
      go_wp2_with (at_builtin; refine Lib.wpList_append_run _ rfl _ _ _ _ rfl _ _ rfl rfl _ _ HR1.out ?_)
      refine (HNO.out _ HG1.out).mono ?_
      rintro e wz ⟨rfl, hw⟩
      rw [hw]
      clear hw wz
      go_wp2_with (at_builtin; refine Lib.wpList_append_run _ rfl _ _ _ _ rfl _ _ rfl rfl _ _ HR2.out ?_)
      refine Calls.mono HIN.out ?_
      rintro e w3 ⟨u3, rfl, hI3, hb3⟩
      obtain ⟨ua, uc, hu3, -⟩ := Is'.any hI3
      rw [← HEM.out] at hu3
      subst hu3
      have HG3 : Hid _ := GB.below HG2.out hb3
      have HZ3 : Hid _ := Bz.below HZ2.out hb3
      have hbw3 : Below W.heap.size W w3 := hbw2.trans (hb3.mono hsw2)
      have hsw3 := hbw3.size
      clear hI3 hb3 HIN HR1 HR2 HZ2 HG2 HG1 hbw2 hsw2
      go_wp2_with fail
      have HEV : Hid (∀ (x : World) (q : Nat), q < 2 * (K1 + 1) → Below w3.heap.size w3 x → Calls Try.prog 19 #[.pointer (some ⟨G, 0, none⟩), .int .i64 (q : Int), .slice a2 M c2] x fun e y => e = .returned (.tuple #[.bool (vI ks il2 (q : Int)), .int .i64 0]) ∧ Below x.heap.size x y) := fun x q hq hb => by
        have := eval_any (GB.below HG3.out hb) (q : Int) (Bz.below HZ3.out hb)
        rw [evF_of (litB_iff.2 ⟨by omega, by rw [HKL.out]; omega⟩) HI2.out] at this
        exact this
      have HKD : Hid (∀ (x : World) (q : Nat), Below w3.heap.size w3 x → Calls Try.prog 14 #[.pointer (some ⟨G, 0, none⟩), .int .i64 (q : Int)] x fun e y => e = .returned (.tuple #[.int .i64 (kidF ks (q : Int)).1, .int .i64 (kidF ks (q : Int)).2.1, .bool (kidF ks (q : Int)).2.2]) ∧ Below x.heap.size x y) := fun x q hb => kids_any (GB.below HG3.out hb) (q : Int)
      go_loopw [15] (fun i wz => ∃ n1 : Nat, 1 ≤ n1 ∧ n1 ≤ K1 + 1 ∧ i = .int .i64 (n1 : Int) ∧ Below w3.heap.size w3 wz) (fun i wz => K1 + 1 - (intOf i).toNat)
      case atStart => exact ⟨1, by omega, by omega, rfl, Below.refl _ _⟩
      case round =>
        obtain ⟨n1, hn1, hn1K, rfl, hbz⟩ := hrel
        have hn3 : (n1 : Int) < 50000 := by omega
        have HNZ : Hid (Calls Try.prog 13 #[.pointer (some ⟨G, 0, none⟩)] wr fun e y => e = .returned (.int .i64 (K1 : Int)) ∧ y = wr) := HNO.out wr (GB.below HG3.out hbz)
        by_cases hle : n1 ≤ K1
        · have hle' : (n1 : Int) ≤ (K1 : Int) := by omega
          obtain ⟨kd, hkd⟩ : ∃ kd, ks[n1]? = some kd := ⟨_, List.getElem?_eq_getElem (by rw [HKL.out]; omega)⟩
          have ekd : kidF ks (n1 : Int) = ((kd.1 : Int), (kd.2 : Int), isK kd) := by unfold kidF; rw [if_pos (by omega), Int.toNat_natCast, hkd]
          have HK1 := HKD.out wr n1 hbz
          rw [ekd] at HK1
          have HK1' : Hid _ := HK1
          have hV2 : vI ks il2 (2 * (n1 : Int) + 1) = !vI ks il2 (2 * (n1 : Int)) := by
            have := vI_tu (ks := ks) (il := il2) (l := 2 * (n1 : Int)) (by omega)
            rw [show tu (2 * (n1 : Int)) = 2 * (n1 : Int) + 1 by unfold tu; omega] at this
            exact this
          obtain ⟨V, eV⟩ : ∃ V, V = vI ks il2 (2 * (n1 : Int)) := ⟨_, rfl⟩
          rw [← eV] at hV2
          have HE1 : Hid (∀ x, Below w3.heap.size w3 x → Calls Try.prog 19 #[.pointer (some ⟨G, 0, none⟩), .int .i64 (2 * (n1 : Int)), .slice a2 M c2] x fun e y => e = .returned (.tuple #[.bool V, .int .i64 0]) ∧ Below x.heap.size x y) := fun x hb => by
            have := HEV.out x (2 * n1) (by omega) hb
            rw [show ((2 * n1 : Nat) : Int) = 2 * (n1 : Int) by omega, ← eV] at this
            exact this
          have HE2 : Hid (∀ x, Below w3.heap.size w3 x → Calls Try.prog 19 #[.pointer (some ⟨G, 0, none⟩), .int .i64 (2 * (n1 : Int) + 1), .slice a2 M c2] x fun e y => e = .returned (.tuple #[.bool (!V), .int .i64 0]) ∧ Below x.heap.size x y) := fun x hb => by
            have := HEV.out x (2 * n1 + 1) (by omega) hb
            rw [show ((2 * n1 + 1 : Nat) : Int) = 2 * (n1 : Int) + 1 by omega, hV2] at this
            exact this
          have HKID : Hid _ := HIV.out.kid n1 kd hkd
          have HONE : Hid (∀ j : Nat, ks[j]? = some kd → kd ≠ (0, 0) → j = n1) := fun j hj h0 => HIV.out.once j n1 kd hj hkd h0
          clear HK1 ekd eV hV2 hkd
          go_wp2_with fail
          refine Calls.mono HNZ.out ?_
          rintro e wy ⟨rfl, hw⟩
          rw [hw]
          clear hw wy
          go_wp2_with fail
          refine Calls.mono HK1'.out ?_
          rintro e w5 ⟨rfl, hc5⟩
          have hb5 : Below w3.heap.size w3 w5 := below_step hbz hc5
          clear hc5 HK1' HNZ hbz
          obtain ⟨k1, k2⟩ := kd
          try dsimp only at HKID
          try dsimp only
          by_cases hk : isK (k1, k2) = true
          · have hne : (k1, k2) ≠ (0, 0) := fun e => by rw [e] at hk; simp [isK] at hk
            have hkid := HKID.out hne
            try dsimp only at hkid
            have b1 : ¬ (k1 : Int) < 2 := by omega
            have b2 : ¬ (k2 : Int) ≤ (k1 : Int) := by omega
            have b3 : ¬ 2 * (n1 : Int) ≤ (k2 : Int) := by omega
            have e1 : bits .xor .i64 (k1 : Int) 1 = tu (k1 : Int) := bits_tu ⟨by omega, by omega⟩
            have b4 : (tu (k1 : Int) == (k2 : Int)) = false := by simp; unfold tu; omega
            obtain ⟨T, eT⟩ : ∃ T, T = tu (k1 : Int) := ⟨_, rfl⟩
            rw [← eT] at e1 b4
            have HON : Hid (∀ j : Nat, j < n1 → ks[j]? ≠ some (k1, k2)) := fun j hj e => by have := HONE.out j e hne; omega
            rw [hk]
            clear hkid hne hk eT HONE HKID
            go_wp2_with fail
            go_loopw [19] (fun i wz => ∃ m1 : Nat, 1 ≤ m1 ∧ m1 ≤ n1 ∧ i = .int .i64 (m1 : Int) ∧ Below w3.heap.size w3 wz) (fun i wz => n1 - (intOf i).toNat)
            case atStart => exact ⟨1, by omega, by omega, rfl, hb5⟩
            case round =>
              clear hb5
              obtain ⟨m1, hm1, hm1n, rfl, hbz⟩ := hrel
              have hm3 : (m1 : Int) < 50000 := by omega
              by_cases hmn : m1 < n1
              · have hmn' : (m1 : Int) < (n1 : Int) := by omega
                obtain ⟨kd, hkd⟩ : ∃ kd, ks[m1]? = some kd := ⟨_, List.getElem?_eq_getElem (by rw [HKL.out]; omega)⟩
                have ekd : kidF ks (m1 : Int) = ((kd.1 : Int), (kd.2 : Int), isK kd) := by unfold kidF; rw [if_pos (by omega), Int.toNat_natCast, hkd]
                have HK2 := HKD.out wr m1 hbz
                rw [ekd] at HK2
                have HK2' : Hid _ := HK2
                have HNEQ : Hid (kd ≠ (k1, k2)) := fun e => HON.out m1 hmn (by rw [hkd, e])
                clear HK2 ekd hkd
                obtain ⟨j1, j2⟩ := kd
                try dsimp only at HK2'
                obtain ⟨so, eso⟩ : ∃ so, so = isK (j1, j2) := ⟨_, rfl⟩
                rw [← eso] at HK2'
                clear eso
                go_wp2_with fail
                refine Calls.mono HK2'.out ?_
                rintro e w6 ⟨rfl, hc6⟩
                have hb6 : Below w3.heap.size w3 w6 := below_step hbz hc6
                clear hc6 HK2'
                cases so
                · go_wp2_with fail
                  exact ⟨⟨m1 + 1, by omega, by omega, by go_num, hb6⟩, by simp [intOf]; omega⟩
                · by_cases q1 : j1 = k1
                  · have q2 : j2 ≠ k2 := fun e => HNEQ.out (by rw [q1, e])
                    subst q1
                    have z1 : ((j1 : Int) == (j1 : Int)) = true := by simp
                    have z2 : ((j2 : Int) == (k2 : Int)) = false := by simp; omega
                    go_wp2_with fail
                    exact ⟨⟨m1 + 1, by omega, by omega, by go_num, hb6⟩, by simp [intOf]; omega⟩
                  · have z1 : ((j1 : Int) == (k1 : Int)) = false := by simp; omega
                    go_wp2_with fail
                    exact ⟨⟨m1 + 1, by omega, by omega, by go_num, hb6⟩, by simp [intOf]; omega⟩
              · have hmn' : decide ((m1 : Int) < (n1 : Int)) = false := decide_eq_false (by omega)
                have hmn2 : (n1 : Int) ≤ (m1 : Int) := by omega
                clear HKD HON
                go_wp2_with fail
                refine (HE1.out _ hbz).mono ?_
                rintro e we ⟨rfl, hce⟩
                have hbe : Below w3.heap.size w3 we := below_step hbz hce
                clear hce
                go_wp2_with fail
                refine (HE2.out _ hbe).mono ?_
                rintro e wf ⟨rfl, hcf⟩
                have hbf : Below w3.heap.size w3 wf := below_step hbe hcf
                clear hcf
                cases V
                all_goals
                  go_wp2_with fail
                  exact ⟨⟨n1 + 1, by omega, by omega, by go_num, hbf⟩, by simp [intOf]; omega⟩
          · rw [Bool.not_eq_true] at hk
            rw [hk]
            clear HKID HONE hk HKD
            have hbz := hb5
            go_wp2_with fail
            refine wp_loop_rounds 1 ?_
            rw [rounds_succ]
            by_cases h1n : (1 : Int) < (n1 : Int)
            · go_wp2_with fail
              refine (HE1.out _ hbz).mono ?_
              rintro e we ⟨rfl, hce⟩
              have hbe : Below w3.heap.size w3 we := below_step hbz hce
              clear hce
              go_wp2_with fail
              refine (HE2.out _ hbe).mono ?_
              rintro e wf ⟨rfl, hcf⟩
              have hbf : Below w3.heap.size w3 wf := below_step hbe hcf
              clear hcf
              cases V
              all_goals
                go_wp2_with fail
                exact ⟨⟨n1 + 1, by omega, by omega, by go_num, hbf⟩, by simp [intOf]; omega⟩
            · have h1d : decide ((1 : Int) < (n1 : Int)) = false := decide_eq_false h1n
              go_wp2_with fail
              refine (HE1.out _ hbz).mono ?_
              rintro e we ⟨rfl, hce⟩
              have hbe : Below w3.heap.size w3 we := below_step hbz hce
              clear hce
              go_wp2_with fail
              refine (HE2.out _ hbe).mono ?_
              rintro e wf ⟨rfl, hcf⟩
              have hbf : Below w3.heap.size w3 wf := below_step hbe hcf
              clear hcf
              cases V
              all_goals
                go_wp2_with fail
                exact ⟨⟨n1 + 1, by omega, by omega, by go_num, hbf⟩, by simp [intOf]; omega⟩
        · obtain rfl : n1 = K1 + 1 := by omega
          rw [show ((K1 + 1 : Nat) : Int) = (K1 : Int) + 1 from rfl]
          have hled : decide ((K1 : Int) + 1 ≤ (K1 : Int)) = false := decide_eq_false (by omega)
          clear hle hn3
          have hbW : Below W.heap.size W wr := hbw3.trans (hbz.mono hsw3)
          go_wp2_with fail
          refine Calls.mono HNZ.out ?_
          rintro e wy ⟨rfl, hw⟩
          rw [hw]
          clear hw wy
          go_wp2_with fail
          go_ret
          exact ⟨rfl, hbW⟩
end Go.Proofs.Ytdmochghcmeebaa
