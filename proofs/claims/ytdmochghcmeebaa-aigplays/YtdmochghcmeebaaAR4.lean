/- The law AigPlays, walked. -/
import Derived.Test.YtdmochghcmeebaaAR1
import Derived.Test.YtdmochghcmeebaaBH8
namespace Go.Proofs.Ytdmochghcmeebaa
open Go.RowKit
set_option linter.unusedSimpArgs false
set_option linter.unusedVariables false

/-- Both graphs in one world, apart, all of them new. -/
def PB (w W : World) (G1 G2 mo : Nat) (rs : List Kd) : Prop := ∃ F1 F2, Gr w F1 G1 mo ((0, 0) :: rs) ∧ Rg w F2 G2 mo rs ∧ (∀ k, F1 k → ¬ F2 k) ∧ (∀ k, F1 k → W.heap.size ≤ k ∧ k < w.heap.size) ∧ ∀ k, F2 k → W.heap.size ≤ k ∧ k < w.heap.size
theorem PB.below {w w' W : World} {G1 G2 mo : Nat} {rs : List Kd} (h : PB w W G1 G2 mo rs) (hb : Below w.heap.size w w') : PB w' W G1 G2 mo rs := by
  obtain ⟨F1, F2, h1, h2, h3, h4, h5⟩ := h
  exact ⟨F1, F2, h1.below hb, h2.below hb, h3, fun k hk => ⟨(h4 k hk).1, Nat.lt_of_lt_of_le (h4 k hk).2 hb.size⟩, fun k hk => ⟨(h5 k hk).1, Nat.lt_of_lt_of_le (h5 k hk).2 hb.size⟩⟩
theorem PB.gr {w W : World} {G1 G2 mo : Nat} {rs : List Kd} (h : PB w W G1 G2 mo rs) : ∃ F, Gr w F G1 mo ((0, 0) :: rs) := by
  obtain ⟨F1, _, h1, _⟩ := h
  exact ⟨F1, h1⟩
theorem PB.rg {w W : World} {G1 G2 mo : Nat} {rs : List Kd} (h : PB w W G1 G2 mo rs) : ∃ F, Rg w F G2 mo rs := by
  obtain ⟨_, F2, _, h2, _⟩ := h
  exact ⟨F2, h2⟩
theorem PB.start {W w0 w1 w2 : World} {G1 G2 mo : Nat} (hW : W.heap.size ≤ w0.heap.size) (h1 : Gr w1 (fun k => w0.heap.size ≤ k ∧ k < w1.heap.size) G1 mo [(0, 0)]) (hb1 : Below w0.heap.size w0 w1) (h2 : Rg w2 (fun k => w1.heap.size ≤ k ∧ k < w2.heap.size) G2 mo []) (hb2 : Below w1.heap.size w1 w2) : PB w2 W G1 G2 mo [] := by
  have := hb1.size
  have := hb2.size
  exact ⟨_, _, h1.below hb2, h2, fun k h h' => by omega, fun k h => ⟨by omega, by omega⟩, fun k h => ⟨by omega, by omega⟩⟩
/-- A step: first the program's, then the document's. -/
theorem PB.step {w w1 w2 W : World} {F1 F2 : Nat → Prop} {G1 G2 mo : Nat} {r : Ans} {F1' : Nat → Prop} {F2' : Nat → Prop} {rs2 : List Kd} (h3 : ∀ k, F1 k → ¬ F2 k) (h4 : ∀ k, F1 k → W.heap.size ≤ k ∧ k < w.heap.size) (h5 : ∀ k, F2 k → W.heap.size ≤ k ∧ k < w.heap.size) (hW : W.heap.size ≤ w.heap.size)
    (hG : Gr w1 F1' G1 mo r.2.2) (hC : Ch w w1 F1 F1') (hq : r.2.2 = (0, 0) :: rs2) (hR : Rg w2 F2' G2 mo rs2) (hD : Ch w1 w2 F2 F2') : PB w2 W G1 G2 mo rs2 ∧ Below W.heap.size W W := by
  have s1 := hC.size
  have s2 := hD.size
  refine ⟨⟨F1', F2', ?_, hR, fun k h h' => ?_, fun k h => ?_, fun k h => ?_⟩, Below.refl _ _⟩
  · rw [← hq]
    refine hG.kept fun k hk hf => hD.block k hk fun hf2 => ?_
    rcases hC.foot k hf with h | ⟨h, _⟩
    · exact h3 k h hf2
    · have := (h5 k hf2).2
      omega
  · rcases hD.foot k h' with q | ⟨q, _⟩
    · rcases hC.foot k h with p | ⟨p, _⟩
      · exact h3 k p q
      · have := (h5 k q).2; omega
    · rcases hC.foot k h with p | ⟨_, p⟩
      · have := (h4 k p).2; omega
      · omega
  · rcases hC.foot k h with p | ⟨p, q⟩
    · exact ⟨(h4 k p).1, by have := (h4 k p).2; omega⟩
    · exact ⟨by omega, by omega⟩
  · rcases hD.foot k h with p | ⟨p, q⟩
    · exact ⟨(h5 k p).1, by have := (h5 k p).2; omega⟩
    · exact ⟨by omega, by omega⟩
theorem Is'.rl0 {w : World} {base : Nat} {v : Value} {l : List Int} (h : Is' w base v l) (h5 : l.length ≤ 50000) : Rl w 0 v l := by
  obtain ⟨a, c, q1, q2, q3, q4⟩ := Is'.rl h h5
  refine ⟨a, c, q1, q2, q3, ?_⟩
  rcases q4 with q4 | ⟨r, p1, p2, p3⟩
  · exact Or.inl q4
  · exact Or.inr ⟨r, p1, Nat.zero_le _, p3⟩

set_option maxRecDepth 20000 in
set_option maxHeartbeats 12800000 in
theorem walk_plays (most : Int) (W : World) {a : Option Addr} {c : Nat} {l : List St} (hLa : La W a l) (hOk : ∀ s ∈ l, Sk s) (hmx : l.length ≤ maxLen) {b : Option Addr} {cb : Nat} {il : List Bool} (hBz : Bz W (.slice b il.length cb) il) (hil : il.length ≤ 140737488351232) :
    Calls Try.prog 3 #[.int .i64 most, .slice a l.length c, .slice b il.length cb] W fun e W' => e = .returned (.bool true) ∧ Below W.heap.size W W' := by
  have HLA : Hid _ := hLa
  have HOK : Hid _ := hOk
  have HBZ0 : Hid (Bz W (.slice b il.length cb) il) := hBz
  obtain ⟨n, en⟩ : ∃ n, n = l.length := ⟨_, rfl⟩
  have HN : Hid _ := en
  rw [← en] at hmx ⊢
  obtain ⟨L, eL⟩ : ∃ L, L = il.length := ⟨_, rfl⟩
  have HLL : Hid _ := eL
  rw [← eL] at hil ⊢
  have hmx' : (n : Int) ≤ 9223372036854775807 := by unfold maxLen at hmx; omega
  clear hLa hOk en hmx hBz eL
  by_cases hlong : (200 : Int) < (n : Int)
  · go_enter Try.func3, Try.ntmps3
    go_wp2_with fail
    refine (known_any _).mono ?_
    rintro e wk ⟨rfl, hbk⟩
    go_wp2_with fail
    go_ret
    exact ⟨rfl, hbk⟩
  have hlongd : decide ((200 : Int) < (n : Int)) = false := decide_eq_false hlong
  have hn200 : (n : Int) ≤ 200 := by omega
  by_cases hlong2 : (300 : Int) < (L : Int)
  · clear hlong
    go_enter Try.func3, Try.ntmps3
    go_wp2_with fail
    refine (known_any _).mono ?_
    rintro e wk ⟨rfl, hbk⟩
    go_wp2_with fail
    go_ret
    exact ⟨rfl, hbk⟩
  have hlong2d : decide ((300 : Int) < (L : Int)) = false := decide_eq_false hlong2
  have hL300 : (L : Int) ≤ 300 := by omega
  clear hlong hlong2
  obtain ⟨mo, emo⟩ : ∃ mo, mo = roomOf most := ⟨_, rfl⟩
  go_enter Try.func3, Try.ntmps3
  go_wp2_with fail
  refine (known_any _).mono ?_
  rintro e wg ⟨rfl, hbk⟩
  have hwg := hbk.size
  go_wp2_with fail
  refine (gnew_any most _).mono ?_
  rintro e wa ⟨rfl, hba, -, hGa⟩
  rw [← emo] at hGa
  have HGA : Hid _ := hGa
  obtain ⟨G1, eG1⟩ : ∃ G1, G1 = wg.heap.size + 2 := ⟨_, rfl⟩
  rw [← eG1] at HGA ⊢
  clear hGa eG1
  go_wp2_with fail
  refine (rnew_any most _).mono ?_
  rintro e w0 ⟨rfl, hbr, hGr⟩
  rw [← emo] at hGr
  obtain ⟨G2, eG2⟩ : ∃ G2, G2 = wa.heap.size := ⟨_, rfl⟩
  have HP0 : Hid (PB w0 W G1 G2 mo []) := by
    unfold Hid
    rw [eG2]
    exact PB.start hwg HGA.out hba hGr hbr
  have hb0 : Below W.heap.size W w0 := hbk.trans ((hba.trans (hbr.mono hba.size)).mono hwg)
  rw [← eG2]
  clear hGr hba hbr hbk HGA eG2 hwg emo
  go_wp2_with fail
  go_loopw [9] (fun i wr => ∃ k : Nat, k ≤ n ∧ i = .int .i64 (k : Int) ∧ ∃ rs, PB wr W G1 G2 mo rs ∧ Below W.heap.size W wr) (fun i wr => n - (intOf i).toNat)
  case atStart => exact ⟨0, Nat.zero_le _, rfl, _, HP0.out, hb0⟩
  case round =>
    obtain ⟨k, hk, rfl, rs, hP, hbl⟩ := hrel
    have HP : Hid _ := hP
    clear hP HP0 hb0
    have hwr := hbl.size
    obtain ⟨Fr, hRg⟩ := PB.rg HP.out
    have hlen := hRg.len
    obtain ⟨vr, hRx, -⟩ := hRg
    have dr0 := hRx.c0
    obtain ⟨vra, vrc, rfl, -⟩ := hRx.sl
    obtain ⟨N, eN⟩ : ∃ N, N = rs.length := ⟨_, rfl⟩
    have HNN : Hid _ := eN
    rw [← eN] at dr0 hlen
    have dr : wr.cell? ⟨G2, 0, none⟩ = some (.slice vra N vrc) := dr0
    clear hRx dr0 eN
    by_cases hkn : k < n
    · obtain ⟨s, hs⟩ : ∃ s, l[k]? = some s := ⟨_, List.getElem?_eq_getElem (by rw [← HN.out]; exact hkn)⟩
      obtain ⟨ga, oa, rfl, hga, hLn⟩ := HLA.out.resolve_left (fun e => by have := HN.out; rw [e] at this; simp at this; omega)
      have hsk := HOK.out s (List.mem_of_getElem? hs)
      have HD0 : Hid (W.cell? ⟨ga, oa + k * 5, none⟩ = some (.int .i64 s.what)) := hLn k s hs 0 _ rfl
      have d0 : wr.cell? ⟨ga, oa + k * 5, none⟩ = some (.int .i64 s.what) := keep_cell hbl (hLn k s hs 0 _ rfl)
      have d1 : wr.cell? ⟨ga, oa + k * 5 + 1, none⟩ = some (.int .i64 s.a) := keep_cell hbl (hLn k s hs 1 _ rfl)
      have d2 : wr.cell? ⟨ga, oa + k * 5 + 2, none⟩ = some (.int .i64 s.b) := keep_cell hbl (hLn k s hs 2 _ rfl)
      have d3 : wr.cell? ⟨ga, oa + k * 5 + 3, none⟩ = some (.int .i64 s.c) := keep_cell hbl (hLn k s hs 3 _ rfl)
      have d4 : wr.cell? ⟨ga, oa + k * 5 + 4, none⟩ = some (.bool s.near) := keep_cell hbl (hLn k s hs 4 _ rfl)
      have hki : (k : Int) < (n : Int) := by omega
      have hk2 : (k : Int) < 40000 := by omega
      have HLI : Hid (∀ x, Calls Try.prog 10 #[.agg #[.int .i64 s.what, .int .i64 s.a, .int .i64 s.b, .int .i64 s.c, .bool s.near], .int .i64 (N : Int)] x fun e y => e = .returned (.tuple #[.int .i64 (liF s (N + 1)).1, .int .i64 (liF s (N + 1)).2.1, .int .i64 (liF s (N + 1)).2.2]) ∧ Below x.heap.size x y) := fun x => by
        have := lits_any s (N := N + 1) (by omega) (by omega) x
        rw [show ((N + 1 : Nat) : Int) - 1 = (N : Int) by omega] at this
        exact this
      have hli := li_w64 hsk (N := N + 1) (by omega) (by omega)
      obtain ⟨⟨A, B, C⟩, hABC⟩ : ∃ r, r = liF s (N + 1) := ⟨_, rfl⟩
      rw [← hABC] at HLI hli
      dsimp only at HLI hli
      have HW64 : Hid _ := hli
      clear hLn hs hABC hsk hli
      go_wp2_with fail
      refine wp_named fun a0 ha0 => ?_
      have o1 := old_at ha0 (t := 1) rfl
      have o8 := old_at ha0 (t := 8) rfl
      have o9 := old_at ha0 (t := 9) rfl
      refine wp_region_lin (S := SS wr wr.heap.size [] []) [] (fun _ => 0) (by kernel_rfl) (by kernel_rfl) (by rw [← ha0]; kernel_rfl) (SS.start (Below.refl _ _) (fun p hp => by cases hp)) ?_
      apply LinAll.cons0
      · intro g5 L5 a5 x hLi haft hS hK; have t1 := (hK.old 1 (by kernel_rfl)).trans o1; (try dsimp only at t1); refine go_in (wanted_all rfl) ?_; intro K hk; have hBx := hS.below; clear haft hK hLi; go_simp; exact hS.go hk rfl
      apply LinAll.cons0
      · intro g5 L5 a5 x hLi haft hS hK; have t9 := (hK.old 9 (by kernel_rfl)).trans o9; (try dsimp only at t9); refine go_in (wanted_all rfl) ?_; intro K hk; have hBx := hS.below; clear haft hK hLi; go_simp; exact hS.go hk rfl
      apply LinAll.cons0
      · intro g5 L5 a5 x hLi haft hS hK; have t55 := hK.new 0 1 _ 55 _ rfl rfl rfl (by kernel_rfl) (waits haft 0 (by kernel_rfl)); have t56 := hK.new 1 0 _ 56 _ rfl rfl rfl (by kernel_rfl) (waits haft 1 (by kernel_rfl)); (try dsimp only at t55 t56); refine go_in (wanted_all rfl) ?_; intro K hk; have hBx := hS.below; clear haft hK hLi; go_simp; exact hS.go hk rfl
      apply LinAll.cons0
      · intro g5 L5 a5 x hLi haft hS hK; have t57 := hK.new 2 0 _ 57 _ rfl rfl rfl (by kernel_rfl) (waits haft 2 (by kernel_rfl)); (try dsimp only at t57); refine go_in (wanted_all rfl) ?_; intro K hk; have hBx := hS.below; have c0 := keep_cell hBx d0; have c1 := keep_cell hBx d1; have c2 := keep_cell hBx d2; have c3 := keep_cell hBx d3; have c4 := keep_cell hBx d4; have cr := keep_cell hBx dr; clear haft hK hLi; go_simp; exact hS.go hk rfl
      apply LinAll.cons0
      · intro g5 L5 a5 x hLi haft hS hK; have t8 := (hK.old 8 (by kernel_rfl)).trans o8; (try dsimp only at t8); refine go_in (wanted_all rfl) ?_; intro K hk; have hBx := hS.below; clear haft hK hLi; go_simp; exact hS.go hk rfl
      apply LinAll.cons0
      · intro g5 L5 a5 x hLi haft hS hK; have t59 := hK.new 4 0 _ 59 _ rfl rfl rfl (by kernel_rfl) (waits haft 4 (by kernel_rfl)); (try dsimp only at t59); refine go_in (wanted_all rfl) ?_; intro K hk; have hBx := hS.below; clear haft hK hLi; go_simp; exact hS.go hk rfl
      apply LinAll.cons0
      · intro g5 L5 a5 x hLi haft hS hK; have t60 := hK.new 5 0 _ 60 _ rfl rfl rfl (by kernel_rfl) (waits haft 5 (by kernel_rfl)); (try dsimp only at t60); refine go_in (wanted_all rfl) ?_; intro K hk; have hBx := hS.below; clear haft hK hLi; go_simp; exact hS.go hk rfl
      apply LinAll.cons0
      · intro g5 L5 a5 x hLi haft hS hK; have t61 := hK.new 6 0 _ 61 _ rfl rfl rfl (by kernel_rfl) (waits haft 6 (by kernel_rfl)); (try dsimp only at t61); refine go_in (wanted_all rfl) ?_; intro K hk; have hBx := hS.below; have c0 := keep_cell hBx d0; have c1 := keep_cell hBx d1; have c2 := keep_cell hBx d2; have c3 := keep_cell hBx d3; have c4 := keep_cell hBx d4; have cr := keep_cell hBx dr; clear haft hK hLi; go_simp; exact hS.go hk rfl
      apply LinAll.cons0
      · intro g5 L5 a5 x hLi haft hS hK; have t62 := hK.new 7 0 _ 62 _ rfl rfl rfl (by kernel_rfl) (waits haft 7 (by kernel_rfl)); (try dsimp only at t62); refine go_in (wanted_all rfl) ?_; intro K hk; have hBx := hS.below; clear haft hK hLi; go_simp; exact hS.go hk rfl
      apply LinAll.cons0
      · intro g5 L5 a5 x hLi haft hS hK; have t58 := hK.new 3 5 _ 58 _ rfl rfl rfl (by kernel_rfl) (waits haft 3 (by kernel_rfl)); have t63 := hK.new 8 0 _ 63 _ rfl rfl rfl (by kernel_rfl) (waits haft 8 (by kernel_rfl)); (try dsimp only at t58 t63); refine go_in (wanted_all rfl) ?_; intro K hk; have hBx := hS.below; clear haft hK hLi; go_simp; refine Calls.mono (HLI.out x) ?_; rintro e y ⟨rfl, hb⟩; exact hS.on hk hb rfl
      apply LinAll.cons0
      · intro g5 L5 a5 x hLi haft hS hK; have t64 := hK.new 9 0 _ 64 _ rfl rfl rfl (by kernel_rfl) (waits haft 9 (by kernel_rfl)); (try dsimp only at t64); refine go_in (wanted_all rfl) ?_; intro K hk; have hBx := hS.below; clear haft hK hLi; go_simp; exact hS.go hk rfl
      apply LinAll.cons0
      · intro g5 L5 a5 x hLi haft hS hK; have t54 := hK.new 10 0 _ 54 _ rfl rfl rfl (by kernel_rfl) (waits haft 10 (by kernel_rfl)); (try dsimp only at t54); refine go_in (wanted_all rfl) ?_; intro K hk; have hBx := hS.below; clear haft hK hLi; go_simp; exact hS.go hk rfl
      apply LinAll.cons0
      · intro g5 L5 a5 x hLi haft hS hK; have t54 := hK.new 10 1 _ 54 _ rfl rfl rfl (by kernel_rfl) (waits haft 10 (by kernel_rfl)); (try dsimp only at t54); refine go_in (wanted_all rfl) ?_; intro K hk; have hBx := hS.below; clear haft hK hLi; go_simp; exact hS.go hk rfl
      apply LinAll.cons0
      · intro g5 L5 a5 x hLi haft hS hK; have t54 := hK.new 10 2 _ 54 _ rfl rfl rfl (by kernel_rfl) (waits haft 10 (by kernel_rfl)); (try dsimp only at t54); refine go_in (wanted_all rfl) ?_; intro K hk; have hBx := hS.below; clear haft hK hLi; go_simp; exact hS.go hk rfl
      apply LinAll.cons0
      · intro g5 L5 a5 x hLi haft hS hK; have t65 := hK.new 11 2 _ 65 _ rfl rfl rfl (by kernel_rfl) (waits haft 11 (by kernel_rfl)); (try dsimp only at t65); refine go_in (wanted_all rfl) ?_; intro K hk; have hBx := hS.below; clear haft hK hLi; go_simp; exact hS.go hk rfl
      apply LinAll.cons0
      · intro g5 L5 a5 x hLi haft hS hK; have t66 := hK.new 12 2 _ 66 _ rfl rfl rfl (by kernel_rfl) (waits haft 12 (by kernel_rfl)); (try dsimp only at t66); refine go_in (wanted_all rfl) ?_; intro K hk; have hBx := hS.below; clear haft hK hLi; go_simp; exact hS.go hk rfl
      apply LinAll.cons0
      · intro g5 L5 a5 x hLi haft hS hK; have t67 := hK.new 13 2 _ 67 _ rfl rfl rfl (by kernel_rfl) (waits haft 13 (by kernel_rfl)); (try dsimp only at t67); refine go_in (wanted_all rfl) ?_; intro K hk; have hBx := hS.below; clear haft hK hLi; go_simp; exact hS.go hk rfl
      refine LinAll.nil fun g5 x hS => ?_
      subst ha0
      simp only [Act.put, List.setIfInBounds_toArray, List.set_cons_zero, List.set_cons_succ]
      clear o1 o8 o9
      have hBx := hS.below
      clear hS
      have HP1 : Hid _ := PB.below HP.out hBx
      have hbx : Below W.heap.size W x := hbl.trans (hBx.mono hwr)
      have hsx := hbx.size
      clear d0 d1 d2 d3 d4 dr HLI hBx hbl hwr HP
      obtain ⟨F1, F2, g1, g2, h3, h4, h5⟩ := HP1.out
      have HF : Hid _ := And.intro h3 (And.intro h4 h5)
      have HDO : Hid _ := does_any (mo := mo) (what := s.what) g1 HW64.out.1 HW64.out.2.1 HW64.out.2.2
      have HG2 : Hid _ := g2
      obtain ⟨R, hR⟩ : ∃ R, R = doF mo ((0, 0) :: rs) s.what A B C := ⟨_, rfl⟩
      have HRR : Hid _ := hR
      rw [← hR] at HDO
      have c0 : x.cell? ⟨ga, oa + k * 5, none⟩ = some (.int .i64 s.what) := keep_cell hbx HD0.out
      clear g1 g2 h3 h4 h5 hR HP1
      go_wp2_with fail
      refine Calls.mono HDO.out ?_
      rintro e w1 ⟨rfl, F1', hG, hC⟩
      have HGC : Hid _ := And.intro hG hC
      have hb1 : Below W.heap.size W w1 := hbx.trans (hC.below (fun q hq => (HF.out.2.1 q hq).1) hsx)
      have hg21 : Rg w1 F2 G2 mo rs := Rg.kept HG2.out fun q hq hf => hC.block q hq fun hf1 => HF.out.1 q hf1 hf
      have HDR : Hid _ := rdoes_any (mo := mo) (what := s.what) hg21 HW64.out.1 HW64.out.2.1 HW64.out.2.2
      rw [← HRR.out] at HDR
      have hs1 := hb1.size
      have c01 : w1.cell? ⟨ga, oa + k * 5, none⟩ = some (.int .i64 s.what) := keep_cell hb1 HD0.out
      clear hG hC hg21 HDO c0 HG2
      go_wp2_with fail
      refine Calls.mono HDR.out ?_
      rintro e w2 ⟨rfl, F2', rs2, hq, hG2, hC2⟩
      have HP2 : Hid (PB w2 W G1 G2 mo rs2) := (PB.step HF.out.1 HF.out.2.1 HF.out.2.2 hsx HGC.out.1 HGC.out.2 hq hG2 hC2).1
      have hb2 : Below W.heap.size W w2 := hb1.trans (hC2.below (fun q hq => (HF.out.2.2 q hq).1) hs1)
      have hs2 := hb2.size
      clear hq hG2 hC2 HDR c01 HGC HF hb1 hs1 hbx hsx HRR
      obtain ⟨q, er, ks2⟩ := R
      dsimp only
      obtain ⟨Fr2, hRg2⟩ := PB.rg HP2.out
      have hlen2 := hRg2.len
      obtain ⟨vr2, hRx2, -⟩ := hRg2
      have dr20 := hRx2.c0
      obtain ⟨vra2, vrc2, rfl, -⟩ := hRx2.sl
      obtain ⟨N2, eN2⟩ : ∃ N2, N2 = rs2.length := ⟨_, rfl⟩
      rw [← eN2] at dr20 hlen2
      have dr2 : w2.cell? ⟨G2, 0, none⟩ = some (.slice vra2 N2 vrc2) := dr20
      have HN2 : Hid (∀ x, Below w2.heap.size w2 x → Calls Try.prog 13 #[.pointer (some ⟨G1, 0, none⟩)] x fun e y => e = .returned (.int .i64 (N2 : Int)) ∧ Below x.heap.size x y) := fun x hx => by
        obtain ⟨F, hF⟩ := PB.gr (PB.below HP2.out hx)
        refine (nodes_any hF).mono fun e y ⟨h1, h2⟩ => ⟨?_, by rw [h2]; exact Below.refl _ _⟩
        rw [h1, eN2]
        simp
      have zq : (q != q) = false := by simp
      have ze : (er != er) = false := by simp
      have zn : ((N2 : Int) != (N2 : Int)) = false := by simp
      clear hRx2 dr20
      go_wp2_with fail
      refine wp_named fun a0 ha0 => ?_
      have o7 := old_at ha0 (t := 7) rfl
      have o8 := old_at ha0 (t := 8) rfl
      have o13 := old_at ha0 (t := 13) rfl
      have o14 := old_at ha0 (t := 14) rfl
      have o15 := old_at ha0 (t := 15) rfl
      have o16 := old_at ha0 (t := 16) rfl
      refine wp_region_lin (S := SS w2 w2.heap.size [] []) [] (fun _ => 0) (by kernel_rfl) (by kernel_rfl) (by rw [← ha0]; kernel_rfl) (SS.start (Below.refl _ _) (fun p hp => by cases hp)) ?_
      apply LinAll.cons0
      · intro g5 L5 a5 x hLi haft hS hK; have t13 := (hK.old 13 (by kernel_rfl)).trans o13; (try dsimp only at t13); refine go_in (wanted_all rfl) ?_; intro K hk; have hBx := hS.below; clear haft hK hLi; go_simp; exact hS.go hk rfl
      apply LinAll.cons0
      · intro g5 L5 a5 x hLi haft hS hK; have t15 := (hK.old 15 (by kernel_rfl)).trans o15; (try dsimp only at t15); refine go_in (wanted_all rfl) ?_; intro K hk; have hBx := hS.below; clear haft hK hLi; go_simp; exact hS.go hk rfl
      apply LinAll.cons0
      · intro g5 L5 a5 x hLi haft hS hK; have t94 := hK.new 0 1 _ 94 _ rfl rfl rfl (by kernel_rfl) (waits haft 0 (by kernel_rfl)); have t95 := hK.new 1 0 _ 95 _ rfl rfl rfl (by kernel_rfl) (waits haft 1 (by kernel_rfl)); (try dsimp only at t94 t95); refine go_in (wanted_all rfl) ?_; intro K hk; have hBx := hS.below; clear haft hK hLi; go_simp; exact hS.go hk rfl
      apply LinAll.cons0
      · intro g5 L5 a5 x hLi haft hS hK; have t96 := hK.new 2 0 _ 96 _ rfl rfl rfl (by kernel_rfl) (waits haft 2 (by kernel_rfl)); (try dsimp only at t96); refine go_in (wanted_all rfl) ?_; intro K hk; have hBx := hS.below; clear haft hK hLi; go_simp; exact hS.go hk rfl
      apply LinAll.cons0
      · intro g5 L5 a5 x hLi haft hS hK; have t14 := (hK.old 14 (by kernel_rfl)).trans o14; have tg := hK.new 3 0 _ 97 _ rfl rfl rfl (by kernel_rfl) (waits haft 3 (by kernel_rfl)); (try dsimp only at t14); refine go_in (wanted_at rfl rfl rfl tg rfl) ?_; intro K hk; have hBx := hS.below; clear haft hK tg hLi; go_simp; exact hS.go hk rfl
      apply LinAll.cons0
      · intro g5 L5 a5 x hLi haft hS hK; have t16 := (hK.old 16 (by kernel_rfl)).trans o16; have tg := hK.new 3 1 _ 97 _ rfl rfl rfl (by kernel_rfl) (waits haft 3 (by kernel_rfl)); (try dsimp only at t16); refine go_in (wanted_at rfl rfl rfl tg rfl) ?_; intro K hk; have hBx := hS.below; clear haft hK tg hLi; go_simp; exact hS.go hk rfl
      apply LinAll.cons0
      · intro g5 L5 a5 x hLi haft hS hK; have t98 := hK.new 4 1 _ 98 _ rfl rfl rfl (by kernel_rfl) (waits haft 4 (by kernel_rfl)); have t99 := hK.new 5 0 _ 99 _ rfl rfl rfl (by kernel_rfl) (waits haft 5 (by kernel_rfl)); have tg := hK.new 3 2 _ 97 _ rfl rfl rfl (by kernel_rfl) (waits haft 3 (by kernel_rfl)); (try dsimp only at t98 t99); refine go_in (wanted_at rfl rfl rfl tg rfl) ?_; intro K hk; have hBx := hS.below; clear haft hK tg hLi; go_simp; exact hS.go hk rfl
      apply LinAll.cons0
      · intro g5 L5 a5 x hLi haft hS hK; have t97 := hK.new 3 3 _ 97 _ rfl rfl rfl (by kernel_rfl) (waits haft 3 (by kernel_rfl)); have t100 := hK.new 6 0 _ 100 _ rfl rfl rfl (by kernel_rfl) (waits haft 6 (by kernel_rfl)); (try dsimp only at t97 t100); refine go_in (wanted_all rfl) ?_; intro K hk; have hBx := hS.below; clear haft hK hLi; go_simp; exact hS.go hk rfl
      apply LinAll.cons0
      · intro g5 L5 a5 x hLi haft hS hK; have t101 := hK.new 7 0 _ 101 _ rfl rfl rfl (by kernel_rfl) (waits haft 7 (by kernel_rfl)); (try dsimp only at t101); refine go_in (wanted_all rfl) ?_; intro K hk; have hBx := hS.below; clear haft hK hLi; go_simp; exact hS.go hk rfl
      apply LinAll.cons0
      · intro g5 L5 a5 x hLi haft hS hK; have t7 := (hK.old 7 (by kernel_rfl)).trans o7; have tg := hK.new 8 0 _ 102 _ rfl rfl rfl (by kernel_rfl) (waits haft 8 (by kernel_rfl)); (try dsimp only at t7); refine go_in (wanted_at rfl rfl rfl tg rfl) ?_; intro K hk; have hBx := hS.below; clear haft hK tg hLi; go_simp; exact hS.go hk rfl
      apply LinAll.cons0
      · intro g5 L5 a5 x hLi haft hS hK; have t103 := hK.new 9 0 _ 103 _ rfl rfl rfl (by kernel_rfl) (waits haft 9 (by kernel_rfl)); have tg := hK.new 8 1 _ 102 _ rfl rfl rfl (by kernel_rfl) (waits haft 8 (by kernel_rfl)); (try dsimp only at t103); refine go_in (wanted_at rfl rfl rfl tg rfl) ?_; intro K hk; have hBx := hS.below; clear haft hK tg hLi; go_simp; refine Calls.mono (HN2.out x hBx) ?_; rintro e y ⟨rfl, hb⟩; exact hS.on hk hb rfl
      apply LinAll.cons0
      · intro g5 L5 a5 x hLi haft hS hK; have t8 := (hK.old 8 (by kernel_rfl)).trans o8; have tg := hK.new 8 2 _ 102 _ rfl rfl rfl (by kernel_rfl) (waits haft 8 (by kernel_rfl)); (try dsimp only at t8); refine go_in (wanted_at rfl rfl rfl tg rfl) ?_; intro K hk; have hBx := hS.below; clear haft hK tg hLi; go_simp; exact hS.go hk rfl
      apply LinAll.cons0
      · intro g5 L5 a5 x hLi haft hS hK; have t105 := hK.new 11 0 _ 105 _ rfl rfl rfl (by kernel_rfl) (waits haft 11 (by kernel_rfl)); have tg := hK.new 8 3 _ 102 _ rfl rfl rfl (by kernel_rfl) (waits haft 8 (by kernel_rfl)); (try dsimp only at t105); refine go_in (wanted_at rfl rfl rfl tg rfl) ?_; intro K hk; have hBx := hS.below; clear haft hK tg hLi; go_simp; exact hS.go hk rfl
      apply LinAll.cons0
      · intro g5 L5 a5 x hLi haft hS hK; have t106 := hK.new 12 0 _ 106 _ rfl rfl rfl (by kernel_rfl) (waits haft 12 (by kernel_rfl)); have tg := hK.new 8 4 _ 102 _ rfl rfl rfl (by kernel_rfl) (waits haft 8 (by kernel_rfl)); (try dsimp only at t106); refine go_in (wanted_at rfl rfl rfl tg rfl) ?_; intro K hk; have hBx := hS.below; clear haft hK tg hLi; go_simp; exact hS.go hk rfl
      apply LinAll.cons0
      · intro g5 L5 a5 x hLi haft hS hK; have t107 := hK.new 13 0 _ 107 _ rfl rfl rfl (by kernel_rfl) (waits haft 13 (by kernel_rfl)); have tg := hK.new 8 5 _ 102 _ rfl rfl rfl (by kernel_rfl) (waits haft 8 (by kernel_rfl)); (try dsimp only at t107); refine go_in (wanted_at rfl rfl rfl tg rfl) ?_; intro K hk; have hBx := hS.below; have cr := keep_cell hBx dr2; clear haft hK tg hLi; go_simp; exact hS.go hk rfl
      apply LinAll.cons0
      · intro g5 L5 a5 x hLi haft hS hK; have t108 := hK.new 14 0 _ 108 _ rfl rfl rfl (by kernel_rfl) (waits haft 14 (by kernel_rfl)); have tg := hK.new 8 6 _ 102 _ rfl rfl rfl (by kernel_rfl) (waits haft 8 (by kernel_rfl)); (try dsimp only at t108); refine go_in (wanted_at rfl rfl rfl tg rfl) ?_; intro K hk; have hBx := hS.below; clear haft hK tg hLi; go_simp; exact hS.go hk rfl
      apply LinAll.cons0
      · intro g5 L5 a5 x hLi haft hS hK; have t104 := hK.new 10 5 _ 104 _ rfl rfl rfl (by kernel_rfl) (waits haft 10 (by kernel_rfl)); have t109 := hK.new 15 0 _ 109 _ rfl rfl rfl (by kernel_rfl) (waits haft 15 (by kernel_rfl)); have tg := hK.new 8 7 _ 102 _ rfl rfl rfl (by kernel_rfl) (waits haft 8 (by kernel_rfl)); (try dsimp only at t104 t109); refine go_in (wanted_at rfl rfl rfl tg rfl) ?_; intro K hk; have hBx := hS.below; clear haft hK tg hLi; go_simp; exact hS.go hk rfl
      apply LinAll.cons0
      · intro g5 L5 a5 x hLi haft hS hK; have t102 := hK.new 8 8 _ 102 _ rfl rfl rfl (by kernel_rfl) (waits haft 8 (by kernel_rfl)); have t110 := hK.new 16 0 _ 110 _ rfl rfl rfl (by kernel_rfl) (waits haft 16 (by kernel_rfl)); (try dsimp only at t102 t110); refine go_in (wanted_all rfl) ?_; intro K hk; have hBx := hS.below; clear haft hK hLi; go_simp; exact hS.go hk rfl
      refine LinAll.nil fun g5 x hS => ?_
      subst ha0
      simp only [Act.put, List.setIfInBounds_toArray, List.set_cons_zero, List.set_cons_succ]
      clear o7 o8 o13 o14 o15 o16
      have hBx := hS.below
      clear hS
      have HP3 : Hid _ := PB.below HP2.out hBx
      have hb3 : Below W.heap.size W x := hb2.trans (hBx.mono hs2)
      have hs3 := hb3.size
      clear HP2 HN2 dr2 hBx hb2 hs2
      obtain ⟨Fa, ga1⟩ := PB.gr HP3.out
      obtain ⟨Fb, gb1⟩ := PB.rg HP3.out
      have HKA : Hid _ := kids_any ga1 A
      have HKB : Hid (∀ y, Below x.heap.size x y → _) := fun y hy => rkids_any (gb1.below hy) (n := A)
      have HCA : Hid (∀ y, Below x.heap.size x y → _) := fun y hy => cone_any (ga1.below hy) B
      have HCB : Hid (∀ y, Below x.heap.size x y → _) := fun y hy => rcone_any (gb1.below hy) HW64.out.2.1
      obtain ⟨kf, ekf⟩ : ∃ kf, kf = kidF ((0, 0) :: rs2) A := ⟨_, rfl⟩
      rw [← ekf] at HKA HKB
      obtain ⟨p1, p2, p3⟩ := kf
      dsimp only at HKA HKB
      clear ekf ga1 gb1
      have z1 : (p1 != p1) = false := by simp
      have z2 : (p2 != p2) = false := by simp
      go_wp2_with fail
      refine Calls.mono HKA.out ?_
      rintro e w5 ⟨rfl, h5b⟩
      clear HKA
      go_wp2_with fail
      refine (HKB.out _ h5b).mono ?_
      rintro e w6 ⟨rfl, h6⟩
      have h6b := below_step h5b h6
      clear h6 h5b HKB
      cases p3
      all_goals
        go_wp2_with fail
        refine (HCA.out _ h6b).mono ?_
        rintro e w7 ⟨u1, rfl, hR1, h7⟩
        have h7b := below_step h6b h7
        have HR1 : Hid _ := hR1
        clear h7 hR1
        go_wp2_with fail
        refine (HCB.out _ h7b).mono ?_
        rintro e w8 ⟨u2, rfl, hR2, h8⟩
        have h8b := below_step h7b h8
        have HR2 : Hid _ := hR2
        have HR3 : Hid _ := Rl.below HR1.out h8
        clear h8 hR2 h7b
        go_wp2_with fail
        refine (ints_same HR3.out HR2.out).mono ?_
        rintro e w9 ⟨rfl, h9⟩
        have h9b := below_step h8b h9
        have HP9 : Hid _ := PB.below HP3.out h9b
        have hb9 : Below W.heap.size W w9 := hb3.trans (h9b.mono hs3)
        clear h9 h8b
        go_wp2_with fail
        exact ⟨⟨k + 1, by omega, by go_num, rs2, HP9.out, hb9⟩, by simp [intOf]; omega⟩
    · obtain rfl : k = n := by omega
      have hkid : decide ((k : Int) < (k : Int)) = false := decide_eq_false (by omega)
      obtain ⟨wq, ewq⟩ : ∃ wq, wq = wr := ⟨_, rfl⟩
      rw [← ewq] at HP hbl dr hwr
      rw [← ewq]
      have HBZ : Hid (Bz wq (.slice b L cb) il) := by
        have e : L = il.length := HLL.out
        have h : Bz wq (.slice b il.length cb) il := Bz.below HBZ0.out hbl
        exact (show Bz wq (.slice b L cb) il from by rw [e]; exact h)
      have HEA : Hid (∀ (y : World) (q : Int), Below wq.heap.size wq y → Calls Try.prog 19 #[.pointer (some ⟨G1, 0, none⟩), .int .i64 q, .slice b L cb] y fun e w' => e = .returned (.tuple #[.bool (evF ((0, 0) :: rs) q il).1, .int .i64 (evF ((0, 0) :: rs) q il).2]) ∧ Below y.heap.size y w') := fun y q hy => by
        obtain ⟨F, hF⟩ := PB.gr (PB.below HP.out hy)
        exact eval_any hF q (Bz.below HBZ.out hy)
      have HEB : Hid (∀ (y : World) (q : Int), w64 q → Below wq.heap.size wq y → Calls Try.prog 20 #[.pointer (some ⟨G2, 0, none⟩), .int .i64 q, .slice b L cb] y fun e w' => e = .returned (.tuple #[.bool (evF ((0, 0) :: rs) q il).1, .int .i64 (evF ((0, 0) :: rs) q il).2]) ∧ Below y.heap.size y w') := fun y q hq hy => by
        obtain ⟨F, hF⟩ := PB.rg (PB.below HP.out hy)
        exact reval_any hF hq (Bz.below HBZ.out hy) (by rw [← HLL.out]; omega)
      have HKA : Hid (∀ (y : World) (q : Int), Below wq.heap.size wq y → Calls Try.prog 14 #[.pointer (some ⟨G1, 0, none⟩), .int .i64 q] y fun e w' => e = .returned (.tuple #[.int .i64 (kidF ((0, 0) :: rs) q).1, .int .i64 (kidF ((0, 0) :: rs) q).2.1, .bool (kidF ((0, 0) :: rs) q).2.2]) ∧ Below y.heap.size y w') := fun y q hy => by
        obtain ⟨F, hF⟩ := PB.gr (PB.below HP.out hy)
        exact kids_any hF q
      have HKB : Hid (∀ (y : World) (q : Int), Below wq.heap.size wq y → Calls Try.prog 15 #[.pointer (some ⟨G2, 0, none⟩), .int .i64 q] y fun e w' => e = .returned (.tuple #[.int .i64 (kidF ((0, 0) :: rs) q).1, .int .i64 (kidF ((0, 0) :: rs) q).2.1, .bool (kidF ((0, 0) :: rs) q).2.2]) ∧ Below y.heap.size y w') := fun y q hy => by
        obtain ⟨F, hF⟩ := PB.rg (PB.below HP.out hy)
        exact rkids_any hF
      have hN4 : (N : Int) < 40000 := by omega
      clear ewq HBZ0 HLL HLA HOK HN HBZ
      go_wp2_with fail
      go_loopw [23] (fun i wz => ∃ j : Nat, j ≤ N + 3 ∧ i = .int .i64 ((j : Int) - 1) ∧ Below wq.heap.size wq wz) (fun i wz => N + 3 - ((intOf i) + 1).toNat)
      case atStart => exact ⟨0, Nat.zero_le _, rfl, Below.refl _ _⟩
      case round =>
        obtain ⟨j, hj, rfl, hbz⟩ := hrel
        have hj4 : (j : Int) < 50000 := by omega
        have drz : wr.cell? ⟨G2, 0, none⟩ = some (.slice vra N vrc) := keep_cell hbz dr
        by_cases hjN : j < N + 3
        · have x1 : (j : Int) - 1 ≤ (N : Int) + 1 := by omega
          obtain ⟨J, eJ⟩ : ∃ J, J = (j : Int) - 1 := ⟨_, rfl⟩
          have A1 := HKA.out wr J hbz
          have B1 := fun y hy => HKB.out y J hy
          have A2 := fun y hy => HEA.out y (2 * J) hy
          have B2 := fun y hy => HEB.out y (2 * J) ⟨by omega, by omega⟩ hy
          obtain ⟨kf, ekf⟩ : ∃ kf, kf = kidF ((0, 0) :: rs) J := ⟨_, rfl⟩
          obtain ⟨ef, eef⟩ : ∃ ef, ef = evF ((0, 0) :: rs) (2 * J) il := ⟨_, rfl⟩
          rw [← ekf] at A1 B1
          rw [← eef] at A2 B2
          obtain ⟨p1, p2, p3⟩ := kf
          obtain ⟨V, er⟩ := ef
          dsimp only at A1 B1 A2 B2
          have HA1 : Hid _ := A1
          have HB1 : Hid _ := B1
          have HA2 : Hid _ := A2
          have HB2 : Hid _ := B2
          have HEJ : Hid _ := eJ
          have x3 : -1 ≤ J := by omega
          have x4 : J < 50000 := by omega
          rw [← eJ] at x1
          rw [← eJ]
          have z1 : (p1 != p1) = false := by simp
          have z2 : (p2 != p2) = false := by simp
          have z3 : (er != er) = false := by simp
          clear A1 B1 A2 B2 ekf eef eJ
          go_wp2_with fail
          refine Calls.mono HA1.out ?_
          rintro e w5 ⟨rfl, h5⟩
          have h5b := below_step hbz h5
          clear h5 HA1
          go_wp2_with fail
          refine (HB1.out _ h5b).mono ?_
          rintro e w6 ⟨rfl, h6⟩
          have h6b := below_step h5b h6
          clear h6 h5b HB1
          go_wp2_with fail
          refine (HA2.out _ h6b).mono ?_
          rintro e w7 ⟨rfl, h7⟩
          have h7b := below_step h6b h7
          clear h7 h6b HA2
          go_wp2_with fail
          refine (HB2.out _ h7b).mono ?_
          rintro e w8 ⟨rfl, h8⟩
          have h8b := below_step h7b h8
          clear h8 h7b HB2 drz
          cases p3 <;> cases V
          all_goals
            go_wp2_with fail
            refine ⟨⟨j + 1, by omega, ?_, h8b⟩, by rw [HEJ.out]; simp [intOf]; omega⟩
            rw [HEJ.out]
            congr 1
            omega
        · obtain rfl : j = N + 3 := by omega
          have x1d : decide (((N + 3 : Nat) : Int) - 1 ≤ (N : Int) + 1) = false := decide_eq_false (by omega)
          obtain ⟨J, eJ⟩ : ∃ J, J = ((N + 3 : Nat) : Int) - 1 := ⟨_, rfl⟩
          rw [← eJ] at x1d ⊢
          have x1n : (N : Int) + 1 < J := by omega
          obtain ⟨Fa, ga1⟩ := PB.gr (PB.below HP.out hbz)
          obtain ⟨Fb, gb1⟩ := PB.rg (PB.below HP.out hbz)
          have hil2 := insL_len ((0, 0) :: rs)
          rw [List.length_cons, ← HNN.out] at hil2
          have HIA : Hid _ := inputs_any ga1
          have HIB : Hid (∀ y, Below wr.heap.size wr y → _) := fun y hy => rinputs_any (gb1.below hy)
          have HSZ : Hid ((insL ((0, 0) :: rs)).length ≤ 50000) := by unfold Hid; omega
          clear eJ ga1 gb1 HEA HEB HKA HKB hil2 hj hj4 hjN
          go_wp2_with fail
          refine Calls.mono HIA.out ?_
          rintro e w5 ⟨u1, rfl, hI1, h5⟩
          have HR1 : Hid _ := Is'.rl hI1 HSZ.out
          clear hI1 HIA
          go_wp2_with fail
          refine (HIB.out _ h5).mono ?_
          rintro e w6 ⟨u2, rfl, hI2, h6⟩
          have HR2 : Hid _ := Is'.rl hI2 HSZ.out
          have HR3 : Hid _ := Rl.below HR1.out h6
          have h6b := below_step hbz (below_step h5 h6)
          clear hI2 h5 h6 HIB
          go_wp2_with fail
          refine (ints_same HR3.out HR2.out).mono ?_
          rintro e w7 ⟨rfl, h7⟩
          have h7b : Below W.heap.size W w7 := hbl.trans ((below_step h6b h7).mono hwr)
          clear h7
          go_wp2_with fail
          go_ret
          exact ⟨rfl, h7b⟩
end Go.Proofs.Ytdmochghcmeebaa
