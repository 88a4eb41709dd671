/- The law AigMeans, walked. -/
import Derived.Test.YtdmochghcmeebaaAR1
import Derived.Test.YtdmochghcmeebaaAG15
namespace Go.Proofs.Ytdmochghcmeebaa
open Go.RowKit
set_option linter.unusedSimpArgs false
set_option linter.unusedVariables false

/-- v is a list of these truths, in blocks from base on. -/
def Bs' (w : World) (base : Nat) (v : Value) (l : List Bool) : Prop := w.ownsRow base 4 1 v l.length (l.map Value.bool)
theorem Bs'.bz {w : World} {base : Nat} {v : Value} {l : List Bool} (h : Bs' w base v l) : Bz w v l := by
  rcases h.2 with ⟨rfl, hn⟩ | ⟨r, cap, cur, rfl, hb, hg, hc, _, hs, ht⟩
  · have := List.eq_nil_of_length_eq_zero hn
    subst this
    exact ⟨none, 0, rfl, Or.inl rfl⟩
  · refine ⟨_, cap, rfl, Or.inr ⟨r, 0, rfl, fun j hj => ?_⟩⟩
    have e : (l.map Value.bool)[j]? = some (.bool (l.getD j false)) := by
      rw [List.getElem?_map, List.getElem?_eq_getElem hj, List.getD_eq_getElem?_getD, List.getElem?_eq_getElem hj]; rfl
    rw [← ht, List.getElem?_take_of_lt (by omega)] at e
    rw [Nat.zero_add]
    exact cell_of hg _ (by simpa using e)
theorem evF_of {ks : List Kd} {l : Int} {il : List Bool} (hl : litB ks.length l = true) (hn : il.length = (insL ks).length) : evF ks l il = (vI ks il l, 0) := by
  unfold evF
  rw [if_neg (by rw [hl]; decide), if_neg (fun x => x hn)]
  rfl

set_option maxRecDepth 20000 in
set_option maxHeartbeats 12800000 in
theorem walk_means (W : World) {a : Option Addr} {c : Nat} {l : List St} (hLa : La W a l) (hOk : ∀ s ∈ l, Sk s) (hmx : l.length ≤ maxLen) :
    Calls Try.prog 4 #[.slice a l.length c] W fun e W' => e = .returned (.bool true) ∧ Below W.heap.size W W' := by
  have HLA : Hid _ := hLa
  have HOK : Hid _ := hOk
  obtain ⟨n, en⟩ : ∃ n, n = l.length := ⟨_, rfl⟩
  have HN : Hid _ := en
  rw [← en] at hmx ⊢
  have hmx' : (n : Int) ≤ 9223372036854775807 := by unfold maxLen at hmx; omega
  clear hLa hOk en hmx
  by_cases hlong : (120 : Int) < (n : Int)
  · go_enter Try.func4, Try.ntmps4
    go_wp2_with fail
    refine (known_any _).mono ?_
    rintro e wk ⟨rfl, hbk⟩
    go_wp2_with fail
    go_ret
    exact ⟨rfl, hbk⟩
  obtain ⟨t4, h40, h41, h42, h43⟩ := info_any infoBool
  have HI4 : Hid (Try.prog.info? 4 = some t4 ∧ t4.zero = some (.bool false) ∧ t4.size = 1 ∧ t4.bytes = 1) := ⟨h40, h41, h42, h43⟩
  clear h40 h41 h42 h43
  go_enter Try.func4, Try.ntmps4
  go_wp2_with fail
  refine (known_any _).mono ?_
  rintro e wg ⟨rfl, hbk⟩
  go_wp2_with fail
  refine (gnew_any 4000 _).mono ?_
  rintro e w0 ⟨rfl, hbg, hsg, hG⟩
  have hwg := hbk.size
  obtain ⟨G, eG⟩ : ∃ G, G = wg.heap.size + 2 := ⟨_, rfl⟩
  rw [← eG] at hG ⊢
  have HG0 : Hid (GB w0 W.heap.size G 4000 [(0, 0)]) := by rw [r4000] at hG; exact Gr.mono hG (fun k hk => Nat.le_trans hwg hk.1)
  have hb0 : Below W.heap.size W w0 := hbk.trans (hbg.mono hwg)
  clear hG hbk hbg hsg eG hwg
  go_wp2_with fail
  go_loopw [4] (fun i wr => ∃ k : Nat, k ≤ n ∧ i = .int .i64 (k : Int) ∧ ∃ ks, GB wr W.heap.size G 4000 ks ∧ ks.length ≤ 1 + 3 * k ∧ (insL ks).length ≤ 6 ∧ Below W.heap.size W wr) (fun i wr => n - (intOf i).toNat)
  case atStart => exact ⟨0, Nat.zero_le _, rfl, _, HG0.out, by simp, by decide, hb0⟩
  case round =>
    obtain ⟨k, hk, rfl, ks, hG, hks, hin6, hbl⟩ := hrel
    have HG : Hid _ := hG
    have hlen := hG.len
    have hpos := (Gr.inv hG).pos
    clear hG HG0 hb0
    have hwr := hbl.size
    by_cases hkn : k < n
    · obtain ⟨s, hs⟩ : ∃ s, l[k]? = some s := ⟨_, List.getElem?_eq_getElem (by rw [← HN.out]; exact hkn)⟩
      obtain ⟨ga, oa, rfl, hga, hLn⟩ := HLA.out.resolve_left (fun e => by have := HN.out; rw [e] at this; simp at this; omega)
      have hsk := HOK.out s (List.mem_of_getElem? hs)
      have hB0 : Below W.heap.size W wr := hbl
      have HD0 : Hid (W.cell? ⟨ga, oa + k * 5, none⟩ = some (.int .i64 s.what)) := hLn k s hs 0 _ rfl
      have d0 : wr.cell? ⟨ga, oa + k * 5, none⟩ = some (.int .i64 s.what) := keep_cell hB0 (hLn k s hs 0 _ rfl)
      have d1 : wr.cell? ⟨ga, oa + k * 5 + 1, none⟩ = some (.int .i64 s.a) := keep_cell hB0 (hLn k s hs 1 _ rfl)
      have d2 : wr.cell? ⟨ga, oa + k * 5 + 2, none⟩ = some (.int .i64 s.b) := keep_cell hB0 (hLn k s hs 2 _ rfl)
      have d3 : wr.cell? ⟨ga, oa + k * 5 + 3, none⟩ = some (.int .i64 s.c) := keep_cell hB0 (hLn k s hs 3 _ rfl)
      have d4 : wr.cell? ⟨ga, oa + k * 5 + 4, none⟩ = some (.bool s.near) := keep_cell hB0 (hLn k s hs 4 _ rfl)
      have hki : (k : Int) < (n : Int) := by omega
      have hk2 : (k : Int) < 40000 := by omega
      have HNO : Hid (∀ x, Below wr.heap.size wr x → Calls Try.prog 13 #[.pointer (some ⟨G, 0, none⟩)] x fun e y => e = .returned (.int .i64 ((ks.length : Int) - 1)) ∧ Below x.heap.size x y) := fun x hx => (nodes_any (GB.below HG.out hx)).mono fun e y ⟨h1, h2⟩ => ⟨h1, by rw [h2]; exact Below.refl _ _⟩
      have HLI : Hid (∀ x, Calls Try.prog 10 #[.agg #[.int .i64 s.what, .int .i64 s.a, .int .i64 s.b, .int .i64 s.c, .bool s.near], .int .i64 ((ks.length : Int) - 1)] x fun e y => e = .returned (.tuple #[.int .i64 (liF s ks.length).1, .int .i64 (liF s ks.length).2.1, .int .i64 (liF s ks.length).2.2]) ∧ Below x.heap.size x y) := fun x => lits_any s hpos (by omega) x
      have hli := li_w64 hsk hpos (by omega)
      obtain ⟨⟨A, B, C⟩, hABC⟩ : ∃ r, r = liF s ks.length := ⟨_, rfl⟩
      rw [← hABC] at HLI hli
      dsimp only at HLI hli
      clear hLn hs hABC hsk
      go_wp2_with fail
      refine wp_named fun a0 ha0 => ?_
      have o0 := old_at ha0 (t := 0) rfl
      have o3 := old_at ha0 (t := 3) rfl
      have o4 := old_at ha0 (t := 4) rfl
      refine wp_region_lin (S := SS wr wr.heap.size [] []) [] (fun _ => 0) (by kernel_rfl) (by kernel_rfl) (by rw [← ha0]; kernel_rfl) (SS.start (Below.refl _ _) (fun p hp => by cases hp)) ?_
      apply LinAll.cons0
      · intro g5 L5 a5 x hLi haft hS hK; have t0 := (hK.old 0 (by kernel_rfl)).trans o0; (try dsimp only at t0); refine go_in (wanted_all rfl) ?_; intro K hk; have hBx := hS.below; clear haft hK hLi; go_simp; exact hS.go hk rfl
      apply LinAll.cons0
      · intro g5 L5 a5 x hLi haft hS hK; have t4 := (hK.old 4 (by kernel_rfl)).trans o4; (try dsimp only at t4); refine go_in (wanted_all rfl) ?_; intro K hk; have hBx := hS.below; clear haft hK hLi; go_simp; exact hS.go hk rfl
      apply LinAll.cons0
      · intro g5 L5 a5 x hLi haft hS hK; have t36 := hK.new 0 1 _ 36 _ rfl rfl rfl (by kernel_rfl) (waits haft 0 (by kernel_rfl)); have t37 := hK.new 1 0 _ 37 _ rfl rfl rfl (by kernel_rfl) (waits haft 1 (by kernel_rfl)); (try dsimp only at t36 t37); refine go_in (wanted_all rfl) ?_; intro K hk; have hBx := hS.below; clear haft hK hLi; go_simp; exact hS.go hk rfl
      apply LinAll.cons0
      · intro g5 L5 a5 x hLi haft hS hK; have t38 := hK.new 2 0 _ 38 _ rfl rfl rfl (by kernel_rfl) (waits haft 2 (by kernel_rfl)); (try dsimp only at t38); refine go_in (wanted_all rfl) ?_; intro K hk; have hBx := hS.below; have c0 := keep_cell hBx d0; have c1 := keep_cell hBx d1; have c2 := keep_cell hBx d2; have c3 := keep_cell hBx d3; have c4 := keep_cell hBx d4; clear haft hK hLi; go_simp; exact hS.go hk rfl
      apply LinAll.cons0
      · intro g5 L5 a5 x hLi haft hS hK; have t3 := (hK.old 3 (by kernel_rfl)).trans o3; (try dsimp only at t3); refine go_in (wanted_all rfl) ?_; intro K hk; have hBx := hS.below; clear haft hK hLi; go_simp; exact hS.go hk rfl
      apply LinAll.cons0
      · intro g5 L5 a5 x hLi haft hS hK; have t40 := hK.new 4 0 _ 40 _ rfl rfl rfl (by kernel_rfl) (waits haft 4 (by kernel_rfl)); (try dsimp only at t40); refine go_in (wanted_all rfl) ?_; intro K hk; have hBx := hS.below; clear haft hK hLi; go_simp; refine Calls.mono (HNO.out x hBx) ?_; rintro e y ⟨rfl, hb⟩; exact hS.on hk hb rfl
      apply LinAll.cons0
      · intro g5 L5 a5 x hLi haft hS hK; have t39 := hK.new 3 2 _ 39 _ rfl rfl rfl (by kernel_rfl) (waits haft 3 (by kernel_rfl)); have t41 := hK.new 5 0 _ 41 _ rfl rfl rfl (by kernel_rfl) (waits haft 5 (by kernel_rfl)); (try dsimp only at t39 t41); refine go_in (wanted_all rfl) ?_; intro K hk; have hBx := hS.below; clear haft hK hLi; go_simp; refine Calls.mono (HLI.out x) ?_; rintro e y ⟨rfl, hb⟩; exact hS.on hk hb rfl
      apply LinAll.cons0
      · intro g5 L5 a5 x hLi haft hS hK; have t42 := hK.new 6 0 _ 42 _ rfl rfl rfl (by kernel_rfl) (waits haft 6 (by kernel_rfl)); (try dsimp only at t42); refine go_in (wanted_all rfl) ?_; intro K hk; have hBx := hS.below; clear haft hK hLi; go_simp; exact hS.go hk rfl
      apply LinAll.cons0
      · intro g5 L5 a5 x hLi haft hS hK; have t35 := hK.new 7 0 _ 35 _ rfl rfl rfl (by kernel_rfl) (waits haft 7 (by kernel_rfl)); (try dsimp only at t35); refine go_in (wanted_all rfl) ?_; intro K hk; have hBx := hS.below; clear haft hK hLi; go_simp; exact hS.go hk rfl
      apply LinAll.cons0
      · intro g5 L5 a5 x hLi haft hS hK; have t35 := hK.new 7 1 _ 35 _ rfl rfl rfl (by kernel_rfl) (waits haft 7 (by kernel_rfl)); (try dsimp only at t35); refine go_in (wanted_all rfl) ?_; intro K hk; have hBx := hS.below; clear haft hK hLi; go_simp; exact hS.go hk rfl
      apply LinAll.cons0
      · intro g5 L5 a5 x hLi haft hS hK; have t35 := hK.new 7 2 _ 35 _ rfl rfl rfl (by kernel_rfl) (waits haft 7 (by kernel_rfl)); (try dsimp only at t35); refine go_in (wanted_all rfl) ?_; intro K hk; have hBx := hS.below; clear haft hK hLi; go_simp; exact hS.go hk rfl
      apply LinAll.cons0
      · intro g5 L5 a5 x hLi haft hS hK; have t43 := hK.new 8 2 _ 43 _ rfl rfl rfl (by kernel_rfl) (waits haft 8 (by kernel_rfl)); (try dsimp only at t43); refine go_in (wanted_all rfl) ?_; intro K hk; have hBx := hS.below; clear haft hK hLi; go_simp; exact hS.go hk rfl
      apply LinAll.cons0
      · intro g5 L5 a5 x hLi haft hS hK; have t44 := hK.new 9 2 _ 44 _ rfl rfl rfl (by kernel_rfl) (waits haft 9 (by kernel_rfl)); (try dsimp only at t44); refine go_in (wanted_all rfl) ?_; intro K hk; have hBx := hS.below; clear haft hK hLi; go_simp; exact hS.go hk rfl
      apply LinAll.cons0
      · intro g5 L5 a5 x hLi haft hS hK; have t45 := hK.new 10 2 _ 45 _ rfl rfl rfl (by kernel_rfl) (waits haft 10 (by kernel_rfl)); (try dsimp only at t45); refine go_in (wanted_all rfl) ?_; intro K hk; have hBx := hS.below; clear haft hK hLi; go_simp; exact hS.go hk rfl
      refine LinAll.nil fun g5 x hS => ?_
      subst ha0
      simp only [Act.put, List.setIfInBounds_toArray, List.set_cons_zero, List.set_cons_succ]
      clear o0 o3 o4
      have hBx := hS.below
      clear hS
      have HG1 : Hid _ := GB.below HG.out hBx
      have hbx : Below W.heap.size W x := hbl.trans (hBx.mono hwr)
      clear d0 d1 d2 d3 d4 HLI HNO HG hBx hB0
      go_wp2_with fail
      refine (inputs_any HG1.out).mono ?_
      rintro e w1 ⟨u, rfl, hI, hbi⟩
      obtain ⟨ua, uc, rfl, -⟩ := Is'.any hI
      have hsx := hbx.size
      have HG2 : Hid _ := GB.below HG1.out hbi
      have hb1 : Below W.heap.size W w1 := hbx.trans (hbi.mono hsx)
      have hs1 := hb1.size
      obtain ⟨m, em⟩ : ∃ m, m = (insL ks).length := ⟨_, rfl⟩
      have HM : Hid _ := em
      rw [← em] at hin6
      rw [← em]
      have hm6 : (m : Int) ≤ 6 := by omega
      have d0 : w1.cell? ⟨ga, oa + k * 5, none⟩ = some (.int .i64 s.what) := keep_cell hb1 HD0.out
      have HDO : Hid _ := does_any (mo := 4000) (what := s.what) HG2.out hli.1 hli.2.1 hli.2.2
      have HPR : Hid _ := do_pre (mo := 4000) (ks := ks) (what := s.what) (a := A) (b := B) (c := C)
      have HIN : Hid _ := do_ins0 (mo := 4000) (ks := ks) (what := s.what) (a := A) (b := B) (c := C)
      have HIN2 : Hid (s.what ≠ 0 → insL (doF 4000 ks s.what A B C).2.2 = insL ks) := fun h => do_ins h
      have HVL : Hid (∀ l0 ks2, doF 4000 ks s.what A B C = (l0, 0, ks2) → 1 ≤ s.what ∧ s.what ≤ 6 → Inv ks2 → ∀ il, _) := fun l0 ks2 h1 h2 h3 il => do_val h1 h2 h3 il
      obtain ⟨R, hR⟩ : ∃ R, R = doF 4000 ks s.what A B C := ⟨_, rfl⟩
      rw [← hR] at HDO HPR HIN HIN2 HVL
      obtain ⟨x0, hx0⟩ : ∃ x0, x0 = s.what := ⟨_, rfl⟩
      rw [← hx0] at d0 HDO HD0 HVL HIN HIN2
      rw [← em] at HIN
      clear hR hx0 HG1 hI hbi hbx hbl hli em hwr hsx
      by_cases hskip : x0 = 0 ∧ 6 ≤ m
      · obtain ⟨rfl, h6⟩ := hskip
        have h6' : (6 : Int) ≤ (m : Int) := by omega
        clear HDO HPR HIN HIN2 HVL
        go_wp2_with fail
        exact ⟨⟨k + 1, by omega, by go_num, ks, HG2.out, by omega, by rw [← HM.out]; exact hin6, hb1⟩, by simp [intOf]; omega⟩
      by_cases hx00 : x0 = 0
      · subst hx00
        have h6' : ¬ (6 : Int) ≤ (m : Int) := by omega
        have hd6 : decide ((6 : Int) ≤ (m : Int)) = false := decide_eq_false h6'
        have h6n : (m : Int) < 6 := by omega
        clear hskip h6' hm6
        go_wp2_with fail
        refine Calls.mono HDO.out ?_
        intro e w2 hd
        obtain ⟨rfl, hG3, hb⟩ := Did.low hd hs1
        have HG3 : Hid _ := hG3
        have hb2 : Below W.heap.size W w2 := hb1.trans hb
        have d02 : w2.cell? ⟨ga, oa + k * 5, none⟩ = some (.int .i64 0) := keep_cell hb2 HD0.out
        obtain ⟨l0, er, ks2⟩ := R
        dsimp only at HPR HIN HG3 ⊢
        clear hG3 hd hb HDO HIN2 HVL d0 HG2 hb1 hs1
        have HE : Hid (ks2.length ≤ 1 + 3 * (k + 1) ∧ (insL ks2).length ≤ 6) := ⟨by have := HPR.out.2; omega, by have := HIN.out; simp at this; omega⟩
        by_cases her : er = 0
        · subst her
          go_wp2_with fail
          exact ⟨⟨k + 1, by omega, by go_num, ks2, HG3.out, HE.out.1, HE.out.2, hb2⟩, by simp [intOf]; omega⟩
        · have zr : (er == 0) = false := by simp [her]
          have zr' : (er != 0) = true := by simp [her]
          go_wp2_with fail
          exact ⟨⟨k + 1, by omega, by go_num, ks2, HG3.out, HE.out.1, HE.out.2, hb2⟩, by simp [intOf]; omega⟩
      have zx : (x0 == 0) = false := by simp [hx00]
      clear hskip
      go_wp2_with fail
      refine Calls.mono HDO.out ?_
      intro e w2 hd
      obtain ⟨rfl, hG3, hb⟩ := Did.low hd hs1
      have HG3 : Hid _ := hG3
      have hb2 : Below W.heap.size W w2 := hb1.trans hb
      have d02 : w2.cell? ⟨ga, oa + k * 5, none⟩ = some (.int .i64 x0) := keep_cell hb2 HD0.out
      obtain ⟨l0, er, ks2⟩ := R
      dsimp only at HPR HIN2 HG3 HVL ⊢
      have HE : Hid (ks2.length ≤ 1 + 3 * (k + 1) ∧ (insL ks2).length = m) := ⟨by have := HPR.out.2; omega, by rw [HIN2.out hx00, HM.out]⟩
      clear hG3 hd hb HDO HIN d0 HG2 hb1 hs1 HIN2 HPR
      by_cases her : er = 0
      case neg =>
        have zr : (er == 0) = false := by simp [her]
        have zr' : (er != 0) = true := by simp [her]
        go_wp2_with fail
        exact ⟨⟨k + 1, by omega, by go_num, ks2, HG3.out, HE.out.1, by rw [HE.out.2]; omega, hb2⟩, by simp [intOf]; omega⟩
      subst her
      by_cases hx1 : x0 < 1
      · go_wp2_with fail
        exact ⟨⟨k + 1, by omega, by go_num, ks2, HG3.out, HE.out.1, by rw [HE.out.2]; omega, hb2⟩, by simp [intOf]; omega⟩
      have zx1 : decide (x0 < 1) = false := decide_eq_false hx1
      by_cases hx6 : 6 < x0
      · go_wp2_with fail
        exact ⟨⟨k + 1, by omega, by go_num, ks2, HG3.out, HE.out.1, by rw [HE.out.2]; omega, hb2⟩, by simp [intOf]; omega⟩
      have HV : Hid _ := HVL.out l0 ks2 rfl ⟨by omega, by omega⟩ (Gr.inv HG3.out)
      obtain ⟨P, eP⟩ : ∃ P : Nat, P = 2 ^ m := ⟨_, rfl⟩
      have hP1 : (2 : Int) ^ m = (P : Int) := by rw [eP]; simp
      have hP64 : P ≤ 64 := by
        rw [eP]
        exact Nat.le_trans (Nat.pow_le_pow_right (by decide) (show m ≤ 6 by omega)) (by decide)
      have hP2 : wrap64 (P : Int) = (P : Int) := by unfold wrap64; omega
      clear HVL eP
      go_wp2_with fail
      clear d02
      go_loopw [11] (fun i wq => ∃ kk : Nat, kk ≤ P ∧ i = .int .i64 (kk : Int) ∧ GB wq W.heap.size G 4000 ks2 ∧ Below W.heap.size W wq) (fun i wq => P - (intOf i).toNat)
      case atStart => exact ⟨0, Nat.zero_le _, rfl, HG3.out, hb2⟩
      case round =>
        clear HG3 hb2
        obtain ⟨kk, hkk, rfl, hG, hbl⟩ := hrel
        have HG : Hid _ := hG
        clear hG
        obtain ⟨wq, ewq⟩ : ∃ wq, wq = wr := ⟨_, rfl⟩
        rw [← ewq] at HG hbl
        rw [← ewq]
        clear ewq
        have hkk2 : (kk : Int) < 40000 := by omega
        by_cases hkP : kk < P
        · have hkP' : (kk : Int) < (P : Int) := by omega
          go_wp2_with fail
          go_loopw [12, 13] (fun v j wz => ∃ jj : Nat, jj ≤ m ∧ j = .int .i64 (jj : Int) ∧ ∃ il : List Bool, il.length = jj ∧ Bs' wz wq.heap.size v il ∧ Below wq.heap.size wq wz) (fun v j wz => m - (intOf j).toNat)
          case atStart => exact ⟨0, Nat.zero_le _, rfl, [], rfl, World.ownsRow_nil _ _ _ _, Below.refl _ _⟩
          case round =>
            obtain ⟨jj, hjj, rfl, il, hil, hBs, hbz⟩ := hrel
            have hsz := hbz.size
            have HBS : Hid _ := hBs
            clear hBs
            by_cases hjm : jj < m
            · have hjm' : (jj : Int) < (m : Int) := by omega
              go_wp2_with (at_builtin; refine wpList_append_own_at _ rfl _ _ 23 rfl wq.heap.size 4 t4 (.bool false) 1 1 underBools HI4.out.1 HI4.out.2.1 HI4.out.2.2.1 HI4.out.2.2.2 rfl (by decide) _ _ _ rfl (row_kept HBS.out (fun _ hq => heap_alloc_old _ _ hq)) ⟨wr.heap.size, 0, none⟩ 1 1 [_] rfl rfl (cell_one_new _ _ _) (fun u hu => by rw [List.mem_singleton.1 hu]; rfl) (by rw [hil]; unfold maxLen; omega) (by rw [hil]; omega) (by simp; omega) ?_; intro v1 w3 hown hgrow hnil hat)
              obtain ⟨y, ey⟩ : ∃ y, y = (bits .and .i64 ((kk : Int) / 2 ^ jj) 1 == 1) := ⟨_, rfl⟩
              rw [← ey] at hown
              have hrow : ∀ q, u12.ownBlock = some q → wq.heap.size ≤ q := fun q hq => (World.ownsRow.lt HBS.out q hq).1
              have hb3 : Below wq.heap.size wq w3 := low_grown hbz hsz hgrow hrow
              refine ⟨⟨jj + 1, by omega, by go_num, il ++ [y], by simp; omega, ?_, hb3⟩, by simp [intOf]; omega⟩
              unfold Bs'
              rw [List.map_append, List.length_append]
              exact hown
            · obtain rfl : jj = m := by omega
              have hjm' : ¬ (jj : Int) < (jj : Int) := by omega
              have HBZ : Hid _ := Bs'.bz HBS.out
              have HIL : Hid (il.length = (insL ks2).length) := by unfold Hid; rw [hil, HE.out.2]
              obtain ⟨va, vc, hv12, -⟩ := HBZ.out
              rw [hil] at hv12
              subst hv12
              have HG4 : Hid _ := GB.below HG.out hbz
              have hq := hbl.size
              have hb4 : Below W.heap.size W wr := hbl.trans (hbz.mono hq)
              obtain ⟨vA, vB, vL, vC, hval⟩ := HV.out il
              have HEV : Hid (∀ (wx : World) (y : Int), litB ks2.length y = true → Below wr.heap.size wr wx → Calls Try.prog 19 #[.pointer (some ⟨G, 0, none⟩), .int .i64 y, .slice va jj vc] wx fun e w' => e = .returned (.tuple #[.bool (vI ks2 il y), .int .i64 0]) ∧ Below wx.heap.size wx w') := fun wx y hy hb => by
                have := eval_any (GB.below HG4.out hb) y (Bz.below HBZ.out hb)
                rw [evF_of hy HIL.out] at this
                exact this
              have EA := fun wx hb => HEV.out wx A vA hb
              have EB := fun wx hb => HEV.out wx B vB hb
              have EL := fun wx hb => HEV.out wx l0 vL hb
              have EC := fun (h6 : x0 = 6) wx hb => HEV.out wx C (vC h6) hb
              obtain ⟨pA, epA⟩ : ∃ p, p = vI ks2 il A := ⟨_, rfl⟩
              obtain ⟨pB, epB⟩ : ∃ p, p = vI ks2 il B := ⟨_, rfl⟩
              obtain ⟨pC, epC⟩ : ∃ p, p = vI ks2 il C := ⟨_, rfl⟩
              obtain ⟨pL, epL⟩ : ∃ p, p = vI ks2 il l0 := ⟨_, rfl⟩
              rw [← epA] at EA hval
              rw [← epB] at EB hval
              rw [← epC] at EC hval
              rw [← epL] at EL hval
              have HA : Hid _ := EA
              have HB : Hid _ := EB
              have HC : Hid _ := EC
              have HL : Hid _ := EL
              have HVL2 : Hid _ := hval
              have hsr := hb4.size
              clear EA EB EC EL hval epA epB epC epL vA vB vL vC HV HEV HBS HBZ HIL hbz hsz hq hil
              go_wp2_with fail
              refine (HA.out _ (Below.refl _ _)).mono ?_
              rintro e w4 ⟨rfl, hc4⟩
              go_wp2_with fail
              refine (HB.out _ hc4).mono ?_
              rintro e w5 ⟨rfl, hc5⟩
              have hc5' : Below wr.heap.size wr w5 := below_step hc4 hc5
              have hb5 : Below W.heap.size W w5 := hb4.trans (hc5'.mono hsr)
              have d05 : w5.cell? ⟨ga, oa + k * 5, none⟩ = some (.int .i64 x0) := keep_cell hb5 HD0.out
              clear hc4 hc5 HA HB
              by_cases h4 : x0 = 4
              · subst h4
                cases pA <;> cases pB
                all_goals
                  have hvl := HVL2.out
                  rw [if_pos rfl] at hvl
                  try dsimp only [Bool.and_true, Bool.and_false, Bool.or_true, Bool.or_false, Bool.true_and, Bool.false_and, Bool.true_or, Bool.false_or] at hvl
                  have HPL : Hid _ := hvl
                  clear hvl
                  go_wp2_with fail
                  refine (HL.out _ hc5').mono ?_
                  rintro e w6 ⟨rfl, hc6⟩
                  rw [HPL.out]
                  have hc6' : Below wr.heap.size wr w6 := below_step hc5' hc6
                  have HG6 : Hid _ := GB.below HG4.out hc6'
                  have hb6 : Below W.heap.size W w6 := hb4.trans (hc6'.mono hsr)
                  clear hc6
                  go_wp2_with fail
                  exact ⟨⟨kk + 1, by omega, by go_num, HG6.out, hb6⟩, by simp [intOf]; omega⟩
              · by_cases h5 : x0 = 5
                · subst h5
                  cases pA <;> cases pB
                  all_goals
                    have hvl := HVL2.out
                    rw [if_neg (by decide), if_pos rfl] at hvl
                    try dsimp only [Bool.and_true, Bool.and_false, Bool.or_true, Bool.or_false, Bool.true_and, Bool.false_and, Bool.true_or, Bool.false_or] at hvl
                    have HPL : Hid _ := hvl
                    clear hvl
                    go_wp2_with fail
                    refine (HL.out _ hc5').mono ?_
                    rintro e w6 ⟨rfl, hc6⟩
                    rw [HPL.out]
                    have hc6' : Below wr.heap.size wr w6 := below_step hc5' hc6
                    have HG6 : Hid _ := GB.below HG4.out hc6'
                    have hb6 : Below W.heap.size W w6 := hb4.trans (hc6'.mono hsr)
                    clear hc6
                    go_wp2_with fail
                    exact ⟨⟨kk + 1, by omega, by go_num, HG6.out, hb6⟩, by simp [intOf]; omega⟩
                · by_cases h6 : x0 = 6
                  · subst h6
                    cases pA <;> cases pB <;> cases pC
                    all_goals
                      have hvl := HVL2.out
                      rw [if_neg (by decide), if_neg (by decide), if_pos rfl] at hvl
                      have HPL : Hid _ := hvl
                      clear hvl
                      go_wp2_with fail
                      refine (HC.out (by first | rfl | trivial) _ hc5').mono ?_
                      rintro e w7 ⟨rfl, hc7⟩
                      have hc7' : Below wr.heap.size wr w7 := below_step hc5' hc7
                      clear hc7
                      go_wp2_with fail
                      refine (HL.out _ hc7').mono ?_
                      rintro e w6 ⟨rfl, hc6⟩
                      rw [HPL.out]
                      have hc6' : Below wr.heap.size wr w6 := below_step hc7' hc6
                      have HG6 : Hid _ := GB.below HG4.out hc6'
                      have hb6 : Below W.heap.size W w6 := hb4.trans (hc6'.mono hsr)
                      clear hc6
                      go_wp2_with fail
                      exact ⟨⟨kk + 1, by omega, by go_num, HG6.out, hb6⟩, by simp [intOf]; omega⟩
                  · have z4 : (x0 == 4) = false := by simp [h4]
                    have z5 : (x0 == 5) = false := by simp [h5]
                    have z6 : (x0 == 6) = false := by simp [h6]
                    cases pA <;> cases pB
                    all_goals
                      have hvl := HVL2.out
                      rw [if_neg h4, if_neg h5, if_neg h6] at hvl
                      try dsimp only [Bool.and_true, Bool.and_false, Bool.or_true, Bool.or_false, Bool.true_and, Bool.false_and, Bool.true_or, Bool.false_or] at hvl
                      have HPL : Hid _ := hvl
                      clear hvl
                      go_wp2_with fail
                      refine (HL.out _ hc5').mono ?_
                      rintro e w6 ⟨rfl, hc6⟩
                      rw [HPL.out]
                      have hc6' : Below wr.heap.size wr w6 := below_step hc5' hc6
                      have HG6 : Hid _ := GB.below HG4.out hc6'
                      have hb6 : Below W.heap.size W w6 := hb4.trans (hc6'.mono hsr)
                      clear hc6
                      go_wp2_with fail
                      exact ⟨⟨kk + 1, by omega, by go_num, HG6.out, hb6⟩, by simp [intOf]; omega⟩
        · obtain rfl : kk = P := by omega
          have hkP' : ¬ (kk : Int) < (kk : Int) := by omega
          go_wp2_with fail
          exact ⟨⟨k + 1, by omega, by go_num, ks2, HG.out, HE.out.1, by rw [HE.out.2]; omega, hbl⟩, by simp [intOf]; omega⟩
    · obtain rfl : k = n := by omega
      have hki : ¬ (k : Int) < (k : Int) := by omega
      clear HG HLA HOK HN
      go_wp2_with fail
      go_ret
      exact ⟨rfl, hbl⟩
end Go.Proofs.Ytdmochghcmeebaa
