/- The law AigTurns, walked. -/
import Derived.Test.YtdmochghcmeebaaAG13
import Derived.Test.YtdmochghcmeebaaAG14
import Derived.Test.YtdmochghcmeebaaP5
namespace Go.Proofs.Ytdmochghcmeebaa
open Go.RowKit
set_option linter.unusedSimpArgs false
set_option linter.unusedVariables false

theorem li_w64 {s : St} {N : Nat} (h : Sk s) (h0 : 0 < N) (hN : N ≤ 40000) : w64 (liF s N).1 ∧ w64 (liF s N).2.1 ∧ w64 (liF s N).2.2 := by
  have key : ∀ x : Int, w64 (x % (2 * (N : Int))) := fun x => by
    have h1 := Int.emod_nonneg x (by omega : 2 * (N : Int) ≠ 0)
    have h2 := Int.emod_lt_of_pos x (by omega : 0 < 2 * (N : Int))
    exact ⟨by omega, by omega⟩
  unfold liF
  split
  · exact ⟨key _, key _, key _⟩
  · exact ⟨h.2.1, h.2.2.1, h.2.2.2⟩
theorem GB.len {w : World} {B g mo : Nat} {ks : List Kd} (h : GB w B g mo ks) : ks.length ≤ mo + 1 ∧ mo ≤ 32768 := Gr.len h
theorem r4000 : roomOf 4000 = 4000 := by decide
theorem fit_lit {x : Int} {N : Nat} (h0 : 0 < N) : litB N (x % (2 * (N : Int))) = true := litB_iff.2 ⟨Int.emod_nonneg x (by omega), Int.emod_lt_of_pos x (by omega)⟩

theorem of_fine {r : Ans} (h : r.2.1 = 0) : ∃ l ks, r = (l, 0, ks) := by
  obtain ⟨l, e, ks⟩ := r
  dsimp only at h
  subst h
  exact ⟨l, ks, rfl⟩
theorem turns_pure {ks : List Kd} {A B C : Int} (h0 : 0 < ks.length) (hl : ks.length ≤ 400) (ha : litB ks.length A = true) (hb : litB ks.length B = true) (hc : litB ks.length C = true) :
    ∃ l1 l2 l3 l4 ks1 ks2 ks3 ks4, andF 4000 ks A B = (l1, 0, ks1) ∧ orF 4000 ks1 A B = (l2, 0, ks2) ∧ xorF 4000 ks2 A B = (l3, 0, ks3) ∧ muxF 4000 ks3 C A B = (l4, 0, ks4) ∧ w64 l2 ∧
      (Inv ks4 → andF 4000 ks4 B A = (l1, 0, ks4) ∧ orF 4000 ks4 B A = (l2, 0, ks4) ∧ xorF 4000 ks4 B A = (l3, 0, ks4) ∧ muxF 4000 ks4 (tu C) B A = (l4, 0, ks4) ∧ andF 4000 ks4 (tu A) (tu B) = (tu l2, 0, ks4)) := by
  have f1 := and_fine (mo := 4000) (by omega) ha hb
  have p1 := and_pre (mo := 4000) (ks := ks) (a := A) (b := B)
  obtain ⟨l1, ks1, E1⟩ := of_fine f1
  rw [E1] at f1 p1
  dsimp only at p1
  have f2 := or_fine (mo := 4000) (ks := ks1) (by omega) (lit_pre p1.1 ha) (lit_pre p1.1 hb)
  have p2 := or_pre (mo := 4000) (ks := ks1) (a := A) (b := B)
  have ok2 := or_ok (mo := 4000) (ks := ks1) (Nat.lt_of_lt_of_le h0 (pre_len p1.1)) A B
  obtain ⟨l2, ks2, E2⟩ := of_fine f2
  rw [E2] at p2 ok2
  dsimp only at p2
  have q2 := p1.1.trans p2.1
  have f3 : (xorF 4000 ks2 A B).2.1 = 0 := mux_fine (mo := 4000) (ks := ks2) (by omega) (lit_pre q2 ha) (by rw [tu_lit]; exact lit_pre q2 hb) (lit_pre q2 hb) (Nat.lt_of_lt_of_le h0 (pre_len q2))
  have p3 : ks2 <+: (xorF 4000 ks2 A B).2.2 ∧ (xorF 4000 ks2 A B).2.2.length ≤ ks2.length + 3 := mux_pre
  obtain ⟨l3, ks3, E3⟩ := of_fine f3
  rw [E3] at p3
  dsimp only at p3
  have q3 := q2.trans p3.1
  have f4 := mux_fine (mo := 4000) (ks := ks3) (by omega) (lit_pre q3 hc) (lit_pre q3 ha) (lit_pre q3 hb) (Nat.lt_of_lt_of_le h0 (pre_len q3))
  have p4 := mux_pre (mo := 4000) (ks := ks3) (c := C) (a := A) (b := B)
  obtain ⟨l4, ks4, E4⟩ := of_fine f4
  rw [E4] at p4
  dsimp only at p4
  refine ⟨l1, l2, l3, l4, ks1, ks2, ks3, ks4, E1, E2, E3, E4, ?_, fun hi => ?_⟩
  · rcases ok2 with ⟨_, q⟩ | ⟨q, _⟩
    · have := litB_iff.1 q
      dsimp only at this
      exact ⟨by omega, by omega⟩
    · dsimp only at q
      exact ⟨by omega, by omega⟩
  · have r1 := and_has (mo := 4000) (mo2 := 4000) (ks := ks) (ks2 := ks4) (a := A) (b := B) (by rw [E1]) (by rw [E1]; exact p2.1.trans (p3.1.trans p4.1)) hi
    have r2 := or_has (mo := 4000) (mo2 := 4000) (ks := ks1) (ks2 := ks4) (a := A) (b := B) (by rw [E2]) (by rw [E2]; exact p3.1.trans p4.1) hi
    have r3 := xor_turn (mo := 4000) (mo2 := 4000) (ks := ks2) (ks2 := ks4) (a := A) (b := B) (by rw [E3]) (by rw [E3]; exact p4.1) hi
    have r4 := mux_turn (mo := 4000) (mo2 := 4000) (ks := ks3) (ks2 := ks4) (c := C) (a := A) (b := B) (by rw [E4]) (by rw [E4]; exact List.prefix_refl _) hi
    rw [E1] at r1
    rw [E2] at r2
    rw [E3] at r3
    rw [E4] at r4
    exact ⟨by rw [and_comm]; exact r1, by rw [or_comm']; exact r2.1, r3, r4, r2.2⟩
theorem bits_tu {a : Int} (h : w64 a) : bits .xor .i64 a 1 = tu a := by rw [bits_xor, xor_int h.1 h.2]

set_option maxRecDepth 20000 in
set_option maxHeartbeats 12800000 in
theorem walk_turns (i j k0 : Int) (W : World) {a : Option Addr} {c : Nat} {l : List St} (hLa : La W a l) (hOk : ∀ s ∈ l, Sk s) (hmx : l.length ≤ maxLen) :
    Calls Try.prog 6 #[.slice a l.length c, .int .i64 i, .int .i64 j, .int .i64 k0] W fun e W' => e = .returned (.bool true) ∧ Below W.heap.size W W' := by
  have HLA : Hid _ := hLa
  have HOK : Hid _ := hOk
  obtain ⟨n, en⟩ : ∃ n, n = l.length := ⟨_, rfl⟩
  have HN : Hid _ := en
  rw [← en] at hmx ⊢
  have hmx' : (n : Int) ≤ 9223372036854775807 := by unfold maxLen at hmx; omega
  clear hLa hOk en hmx
  by_cases hlong : (120 : Int) < (n : Int)
  · go_enter Try.func6, Try.ntmps6
    go_wp2_with fail
    refine (known_any _).mono ?_
    rintro e wk ⟨rfl, hbk⟩
    go_wp2_with fail
    go_ret
    exact ⟨rfl, hbk⟩
  go_enter Try.func6, Try.ntmps6
  go_wp2_with fail
  refine (known_any _).mono ?_
  rintro e wg ⟨rfl, hbk⟩
  go_wp2_with fail
  refine (gnew_any 4000 _).mono ?_
  rintro e w0 ⟨rfl, hbg, hsg, hG⟩
  have hwg := hbk.size
  have HG0 : Hid (GB w0 W.heap.size (wg.heap.size + 2) 4000 [(0, 0)]) := by rw [r4000] at hG; exact Gr.mono hG (fun k hk => Nat.le_trans hwg hk.1)
  have hb0 : Below W.heap.size W w0 := hbk.trans (hbg.mono hwg)
  clear hG hbk hbg hsg
  go_wp2_with fail
  go_loopw [10] (fun i wr => ∃ k : Nat, k ≤ n ∧ i = .int .i64 (k : Int) ∧ ∃ ks, GB wr W.heap.size (wg.heap.size + 2) 4000 ks ∧ ks.length ≤ 1 + 3 * k ∧ Below W.heap.size W wr) (fun i wr => n - (intOf i).toNat)
  case atStart => exact ⟨0, Nat.zero_le _, rfl, _, HG0.out, by simp, hb0⟩
  case round =>
    obtain ⟨k, hk, rfl, ks, hG, hks, hbl⟩ := hrel
    have HG : Hid _ := hG
    have hlen := hG.len
    have hpos := (Gr.inv hG).pos
    clear hG HG0
    have hwr := hbl.size
    by_cases hkn : k < n
    · obtain ⟨s, hs⟩ : ∃ s, l[k]? = some s := ⟨_, List.getElem?_eq_getElem (by rw [← HN.out]; exact hkn)⟩
      obtain ⟨ga, oa, rfl, hga, hLn⟩ := HLA.out.resolve_left (fun e => by have := HN.out; rw [e] at this; simp at this; omega)
      have hsk := HOK.out s (List.mem_of_getElem? hs)
      have hB0 : Below W.heap.size W wr := hbl
      have d0 : wr.cell? ⟨ga, oa + k * 5, none⟩ = some (.int .i64 s.what) := keep_cell hB0 (hLn k s hs 0 _ rfl)
      have d1 : wr.cell? ⟨ga, oa + k * 5 + 1, none⟩ = some (.int .i64 s.a) := keep_cell hB0 (hLn k s hs 1 _ rfl)
      have d2 : wr.cell? ⟨ga, oa + k * 5 + 2, none⟩ = some (.int .i64 s.b) := keep_cell hB0 (hLn k s hs 2 _ rfl)
      have d3 : wr.cell? ⟨ga, oa + k * 5 + 3, none⟩ = some (.int .i64 s.c) := keep_cell hB0 (hLn k s hs 3 _ rfl)
      have d4 : wr.cell? ⟨ga, oa + k * 5 + 4, none⟩ = some (.bool s.near) := keep_cell hB0 (hLn k s hs 4 _ rfl)
      have hki : (k : Int) < (n : Int) := by omega
      have hk2 : (k : Int) < 40000 := by omega
      have HNO : Hid (∀ x, Below wr.heap.size wr x → Calls Try.prog 13 #[.pointer (some ⟨wg.heap.size + 2, 0, none⟩)] x fun e y => e = .returned (.int .i64 ((ks.length : Int) - 1)) ∧ Below x.heap.size x y) := fun x hx => (nodes_any (GB.below HG.out hx)).mono fun e y ⟨h1, h2⟩ => ⟨h1, by rw [h2]; exact Below.refl _ _⟩
      have HLI : Hid (∀ x, Calls Try.prog 10 #[.agg #[.int .i64 s.what, .int .i64 s.a, .int .i64 s.b, .int .i64 s.c, .bool s.near], .int .i64 ((ks.length : Int) - 1)] x fun e y => e = .returned (.tuple #[.int .i64 (liF s ks.length).1, .int .i64 (liF s ks.length).2.1, .int .i64 (liF s ks.length).2.2]) ∧ Below x.heap.size x y) := fun x => lits_any s hpos (by omega) x
      have hli := li_w64 hsk hpos (by omega)
      obtain ⟨⟨A, B, C⟩, hABC⟩ : ∃ r, r = liF s ks.length := ⟨_, rfl⟩
      rw [← hABC] at HLI hli
      dsimp only at HLI hli
      have HABC : Hid _ := hABC
      clear hLn hs hABC hsk
      go_wp2_with fail
      refine wp_named fun a0 ha0 => ?_
      have o0 := old_at ha0 (t := 0) rfl
      have o9 := old_at ha0 (t := 9) rfl
      have o10 := old_at ha0 (t := 10) rfl
      refine wp_region_lin (S := SS wr wr.heap.size [] []) [] (fun _ => 0) (by kernel_rfl) (by kernel_rfl) (by rw [← ha0]; kernel_rfl) (SS.start (Below.refl _ _) (fun p hp => by cases hp)) ?_
      apply LinAll.cons0
      · intro g5 L5 a5 x hLi haft hS hK; have t0 := (hK.old 0 (by kernel_rfl)).trans o0; (try dsimp only at t0); refine go_in (wanted_all rfl) ?_; intro K hk; have hBx := hS.below; clear haft hK hLi; go_simp; exact hS.go hk rfl
      apply LinAll.cons0
      · intro g5 L5 a5 x hLi haft hS hK; have t10 := (hK.old 10 (by kernel_rfl)).trans o10; (try dsimp only at t10); refine go_in (wanted_all rfl) ?_; intro K hk; have hBx := hS.below; clear haft hK hLi; go_simp; exact hS.go hk rfl
      apply LinAll.cons0
      · intro g5 L5 a5 x hLi haft hS hK; have t50 := hK.new 0 1 _ 50 _ rfl rfl rfl (by kernel_rfl) (waits haft 0 (by kernel_rfl)); have t51 := hK.new 1 0 _ 51 _ rfl rfl rfl (by kernel_rfl) (waits haft 1 (by kernel_rfl)); (try dsimp only at t50 t51); refine go_in (wanted_all rfl) ?_; intro K hk; have hBx := hS.below; clear haft hK hLi; go_simp; exact hS.go hk rfl
      apply LinAll.cons0
      · intro g5 L5 a5 x hLi haft hS hK; have t52 := hK.new 2 0 _ 52 _ rfl rfl rfl (by kernel_rfl) (waits haft 2 (by kernel_rfl)); (try dsimp only at t52); refine go_in (wanted_all rfl) ?_; intro K hk; have hBx := hS.below; have c0 := keep_cell hBx d0; have c1 := keep_cell hBx d1; have c2 := keep_cell hBx d2; have c3 := keep_cell hBx d3; have c4 := keep_cell hBx d4; clear haft hK hLi; go_simp; exact hS.go hk rfl
      apply LinAll.cons0
      · intro g5 L5 a5 x hLi haft hS hK; have t9 := (hK.old 9 (by kernel_rfl)).trans o9; (try dsimp only at t9); refine go_in (wanted_all rfl) ?_; intro K hk; have hBx := hS.below; clear haft hK hLi; go_simp; exact hS.go hk rfl
      apply LinAll.cons0
      · intro g5 L5 a5 x hLi haft hS hK; have t54 := hK.new 4 0 _ 54 _ rfl rfl rfl (by kernel_rfl) (waits haft 4 (by kernel_rfl)); (try dsimp only at t54); refine go_in (wanted_all rfl) ?_; intro K hk; have hBx := hS.below; clear haft hK hLi; go_simp; refine Calls.mono (HNO.out x hBx) ?_; rintro e y ⟨rfl, hb⟩; exact hS.on hk hb rfl
      apply LinAll.cons0
      · intro g5 L5 a5 x hLi haft hS hK; have t53 := hK.new 3 2 _ 53 _ rfl rfl rfl (by kernel_rfl) (waits haft 3 (by kernel_rfl)); have t55 := hK.new 5 0 _ 55 _ rfl rfl rfl (by kernel_rfl) (waits haft 5 (by kernel_rfl)); (try dsimp only at t53 t55); refine go_in (wanted_all rfl) ?_; intro K hk; have hBx := hS.below; clear haft hK hLi; go_simp; refine Calls.mono (HLI.out x) ?_; rintro e y ⟨rfl, hb⟩; exact hS.on hk hb rfl
      apply LinAll.cons0
      · intro g5 L5 a5 x hLi haft hS hK; have t56 := hK.new 6 0 _ 56 _ rfl rfl rfl (by kernel_rfl) (waits haft 6 (by kernel_rfl)); (try dsimp only at t56); refine go_in (wanted_all rfl) ?_; intro K hk; have hBx := hS.below; clear haft hK hLi; go_simp; exact hS.go hk rfl
      apply LinAll.cons0
      · intro g5 L5 a5 x hLi haft hS hK; have t49 := hK.new 7 0 _ 49 _ rfl rfl rfl (by kernel_rfl) (waits haft 7 (by kernel_rfl)); (try dsimp only at t49); refine go_in (wanted_all rfl) ?_; intro K hk; have hBx := hS.below; clear haft hK hLi; go_simp; exact hS.go hk rfl
      apply LinAll.cons0
      · intro g5 L5 a5 x hLi haft hS hK; have t49 := hK.new 7 1 _ 49 _ rfl rfl rfl (by kernel_rfl) (waits haft 7 (by kernel_rfl)); (try dsimp only at t49); refine go_in (wanted_all rfl) ?_; intro K hk; have hBx := hS.below; clear haft hK hLi; go_simp; exact hS.go hk rfl
      apply LinAll.cons0
      · intro g5 L5 a5 x hLi haft hS hK; have t49 := hK.new 7 2 _ 49 _ rfl rfl rfl (by kernel_rfl) (waits haft 7 (by kernel_rfl)); (try dsimp only at t49); refine go_in (wanted_all rfl) ?_; intro K hk; have hBx := hS.below; clear haft hK hLi; go_simp; exact hS.go hk rfl
      apply LinAll.cons0
      · intro g5 L5 a5 x hLi haft hS hK; have t57 := hK.new 8 2 _ 57 _ rfl rfl rfl (by kernel_rfl) (waits haft 8 (by kernel_rfl)); (try dsimp only at t57); refine go_in (wanted_all rfl) ?_; intro K hk; have hBx := hS.below; clear haft hK hLi; go_simp; exact hS.go hk rfl
      apply LinAll.cons0
      · intro g5 L5 a5 x hLi haft hS hK; have t58 := hK.new 9 2 _ 58 _ rfl rfl rfl (by kernel_rfl) (waits haft 9 (by kernel_rfl)); (try dsimp only at t58); refine go_in (wanted_all rfl) ?_; intro K hk; have hBx := hS.below; clear haft hK hLi; go_simp; exact hS.go hk rfl
      apply LinAll.cons0
      · intro g5 L5 a5 x hLi haft hS hK; have t59 := hK.new 10 2 _ 59 _ rfl rfl rfl (by kernel_rfl) (waits haft 10 (by kernel_rfl)); (try dsimp only at t59); refine go_in (wanted_all rfl) ?_; intro K hk; have hBx := hS.below; clear haft hK hLi; go_simp; exact hS.go hk rfl
      refine LinAll.nil fun g5 x hS => ?_
      subst ha0
      simp only [Act.put, List.setIfInBounds_toArray, List.set_cons_zero, List.set_cons_succ]
      clear o0 o9 o10
      have hBx := hS.below
      clear hS
      have HG1 : Hid _ := GB.below HG.out hBx
      have hbx : Below W.heap.size W x := hbl.trans (hBx.mono hwr)
      have c0 := keep_cell hBx d0
      have hsx := hbx.size
      have HDO : Hid _ := does_any (mo := 4000) (what := s.what) HG1.out hli.1 hli.2.1 hli.2.2
      have HPR : Hid _ := do_pre (mo := 4000) (ks := ks) (what := s.what) (a := A) (b := B) (c := C)
      obtain ⟨R, hR⟩ : ∃ R, R = doF 4000 ks s.what A B C := ⟨_, rfl⟩
      rw [← hR] at HDO HPR
      obtain ⟨x0, hx0⟩ : ∃ x0, x0 = s.what := ⟨_, rfl⟩
      rw [← hx0] at c0 HDO
      clear hR hx0 HG1 HLI HNO
      go_wp2_with fail
      refine Calls.mono HDO.out ?_
      intro e w1 hd
      obtain ⟨rfl, hG, hb⟩ := Did.low hd hsx
      have HG2 : Hid _ := hG
      have hb2 : Below W.heap.size W w1 := hbx.trans hb
      clear hG hd hb
      go_wp2_with fail
      exact ⟨⟨k + 1, by omega, by go_num, _, HG2.out, by have := HPR.out.2; omega, hb2⟩, by simp [intOf]; omega⟩
    · obtain rfl : k = n := by omega
      have hki : ¬ (k : Int) < (k : Int) := by omega
      have hks' : ks.length ≤ 400 := by omega
      obtain ⟨N, eN⟩ : ∃ N, N = ks.length := ⟨_, rfl⟩
      obtain ⟨M, eM⟩ : ∃ M, M = 2 * (N : Int) := ⟨_, rfl⟩
      have HNO : Hid (∀ x, Below wr.heap.size wr x → Calls Try.prog 13 #[.pointer (some ⟨wg.heap.size + 2, 0, none⟩)] x fun e y => e = .returned (.int .i64 ((N : Int) - 1)) ∧ y = x) := fun x hx => by rw [eN]; exact nodes_any (GB.below HG.out hx)
      have HPL : Hid (∀ x wx, Calls Try.prog 23 #[.int .i64 x, .int .i64 M] wx fun e y => e = .returned (.int .i64 (x % M)) ∧ y = wx) := fun x wx => place_any (by omega) (by omega) wx
      have e1 : wrap64 (2 * ((N : Int) - 1)) = 2 * ((N : Int) - 1) := by unfold wrap64; omega
      have e2 : 2 * ((N : Int) - 1) + 2 = M := by omega
      have e3 : wrap64 M = M := by unfold wrap64; omega
      have hA : litB ks.length (i % M) = true := by rw [eM, eN]; exact fit_lit hpos
      have hB : litB ks.length (j % M) = true := by rw [eM, eN]; exact fit_lit hpos
      have hC : litB ks.length (k0 % M) = true := by rw [eM, eN]; exact fit_lit hpos
      obtain ⟨A, eA⟩ : ∃ A, A = i % M := ⟨_, rfl⟩
      obtain ⟨B, eB⟩ : ∃ B, B = j % M := ⟨_, rfl⟩
      obtain ⟨C, eC⟩ : ∃ C, C = k0 % M := ⟨_, rfl⟩
      have HPA := HPL.out i
      have HPB := HPL.out j
      have HPC := HPL.out k0
      rw [← eA] at hA HPA
      rw [← eB] at hB HPB
      rw [← eC] at hC HPC
      have HPA' : Hid _ := HPA
      have HPB' : Hid _ := HPB
      have HPC' : Hid _ := HPC
      have wA : w64 A := by have := litB_iff.1 hA; exact ⟨by omega, by omega⟩
      have wB : w64 B := by have := litB_iff.1 hB; exact ⟨by omega, by omega⟩
      have wC : w64 C := by have := litB_iff.1 hC; exact ⟨by omega, by omega⟩
      obtain ⟨l1, l2, l3, l4, ks1, ks2, ks3, ks4, E1, E2, E3, E4, w2, hrest⟩ := turns_pure hpos hks' hA hB hC
      have X1 : bits .xor .i64 A 1 = tu A := bits_tu wA
      have X2 : bits .xor .i64 B 1 = tu B := bits_tu wB
      have X3 : bits .xor .i64 C 1 = tu C := bits_tu wC
      have X4 : bits .xor .i64 (tu l2) 1 = l2 := by rw [bits_tu (tu_w64 w2), tu_tu]
      obtain ⟨A', eA'⟩ : ∃ A', A' = tu A := ⟨_, rfl⟩
      obtain ⟨B', eB'⟩ : ∃ B', B' = tu B := ⟨_, rfl⟩
      obtain ⟨C', eC'⟩ : ∃ C', C' = tu C := ⟨_, rfl⟩
      obtain ⟨l5, el5⟩ : ∃ l5, l5 = tu l2 := ⟨_, rfl⟩
      have HC' : Hid (w64 C') := by rw [eC']; exact tu_w64 wC
      rw [← eA', ← eB', ← eC', ← el5] at hrest
      rw [← eA'] at X1
      rw [← eB'] at X2
      rw [← eC'] at X3
      rw [← el5] at X4
      have HRE : Hid _ := hrest
      have HW : Hid _ := And.intro wA (And.intro wB wC)
      have HE1 : Hid _ := E1
      have HE2 : Hid _ := E2
      have HE3 : Hid _ := E3
      have HE4 : Hid _ := E4
      clear HPA HPB HPC HPL hA hB hC wA wB wC E1 E2 E3 E4 w2 hrest eA eB eC eM eN eA' eB' eC' el5 hks hks' hlen hki HLA HOK HN
      go_wp2_with fail
      refine (HNO.out _ (Below.refl _ _)).mono ?_
      rintro e wz ⟨rfl, hw⟩
      rw [hw]
      clear hw wz
      go_wp2_with fail
      refine (HPA'.out _).mono ?_
      rintro e wz ⟨rfl, hw⟩
      rw [hw]
      clear hw wz
      go_wp2_with fail
      refine (HPB'.out _).mono ?_
      rintro e wz ⟨rfl, hw⟩
      rw [hw]
      clear hw wz
      go_wp2_with fail
      refine (HPC'.out _).mono ?_
      rintro e wz ⟨rfl, hw⟩
      rw [hw]
      clear hw wz
      clear HPA' HPB' HPC' HNO e1 e2 e3
      obtain ⟨u0, eu0⟩ : ∃ u0, u0 = wr := ⟨_, rfl⟩
      have HG0 : Hid (GB u0 W.heap.size (wg.heap.size + 2) 4000 ks) := by rw [eu0]; exact HG.out
      have hb0 : Below W.heap.size W u0 := by rw [eu0]; exact hbl
      have hs0 := hb0.size
      rw [← eu0]
      clear HG hbl hwr eu0
      go_wp2_with fail
      refine Calls.mono (and_any HG0.out A B) ?_
      intro e u1 hd
      obtain ⟨rfl, hG, hb⟩ := Did.low hd hs0
      rw [HE1.out] at hG ⊢
      have HG1 : Hid (GB u1 W.heap.size (wg.heap.size + 2) 4000 ks1) := hG
      have hb1 : Below W.heap.size W u1 := hb0.trans hb
      have hs1 := hb1.size
      clear hG hb hd HG0 hb0 hs0
      dsimp only
      go_wp2_with fail
      refine Calls.mono (or_any HG1.out HW.out.1 HW.out.2.1) ?_
      intro e u2 hd
      obtain ⟨rfl, hG, hb⟩ := Did.low hd hs1
      rw [HE2.out] at hG ⊢
      have HG2 : Hid (GB u2 W.heap.size (wg.heap.size + 2) 4000 ks2) := hG
      have hb2 : Below W.heap.size W u2 := hb1.trans hb
      have hs2 := hb2.size
      clear hG hb hd HG1 hb1 hs1
      dsimp only
      go_wp2_with fail
      refine Calls.mono (xor_any HG2.out HW.out.1 HW.out.2.1) ?_
      intro e u3 hd
      obtain ⟨rfl, hG, hb⟩ := Did.low hd hs2
      rw [HE3.out] at hG ⊢
      have HG3 : Hid (GB u3 W.heap.size (wg.heap.size + 2) 4000 ks3) := hG
      have hb3 : Below W.heap.size W u3 := hb2.trans hb
      have hs3 := hb3.size
      clear hG hb hd HG2 hb2 hs2
      dsimp only
      go_wp2_with fail
      refine Calls.mono (mux_any HG3.out HW.out.2.2 HW.out.1 HW.out.2.1) ?_
      intro e u4 hd
      obtain ⟨rfl, hG, hb⟩ := Did.low hd hs3
      rw [HE4.out] at hG ⊢
      have HG4 : Hid (GB u4 W.heap.size (wg.heap.size + 2) 4000 ks4) := hG
      have hb4 : Below W.heap.size W u4 := hb3.trans hb
      have hs4 := hb4.size
      clear hG hb hd HG3 hb3 hs3
      dsimp only
      obtain ⟨r1, r2, r3, r4, r5⟩ := HRE.out (Gr.inv HG4.out)
      have HR1 : Hid _ := r1
      have HR2 : Hid _ := r2
      have HR3 : Hid _ := r3
      have HR4 : Hid _ := r4
      have HR5 : Hid _ := r5
      have hl4 := GB.len HG4.out
      obtain ⟨N4, eN4⟩ : ∃ N4, N4 = (ks4.length : Int) - 1 := ⟨_, rfl⟩
      have HNO : Hid (∀ x, GB x W.heap.size (wg.heap.size + 2) 4000 ks4 → Calls Try.prog 13 #[.pointer (some ⟨wg.heap.size + 2, 0, none⟩)] x fun e y => e = .returned (.int .i64 N4) ∧ y = x) := fun x hx => by rw [eN4]; exact nodes_any hx
      clear r1 r2 r3 r4 r5 HRE HE1 HE2 HE3 HE4 hl4 eN4
      go_wp2_with fail
      refine (HNO.out _ HG4.out).mono ?_
      rintro e wz ⟨rfl, hw⟩
      rw [hw]
      clear hw wz
      go_wp2_with fail
      refine Calls.mono (and_any HG4.out B A) ?_
      intro e u5 hd
      obtain ⟨rfl, hG, hb⟩ := Did.low hd hs4
      rw [HR1.out] at hG ⊢
      have HG5 : Hid (GB u5 W.heap.size (wg.heap.size + 2) 4000 ks4) := hG
      have hb5 : Below W.heap.size W u5 := hb4.trans hb
      have hs5 := hb5.size
      clear hG hb hd HG4 hb4 hs4
      dsimp only
      go_wp2_with fail
      refine Calls.mono (or_any HG5.out HW.out.2.1 HW.out.1) ?_
      intro e u6 hd
      obtain ⟨rfl, hG, hb⟩ := Did.low hd hs5
      rw [HR2.out] at hG ⊢
      have HG6 : Hid (GB u6 W.heap.size (wg.heap.size + 2) 4000 ks4) := hG
      have hb6 : Below W.heap.size W u6 := hb5.trans hb
      have hs6 := hb6.size
      clear hG hb hd HG5 hb5 hs5
      dsimp only
      go_wp2_with fail
      refine Calls.mono (xor_any HG6.out HW.out.2.1 HW.out.1) ?_
      intro e u7 hd
      obtain ⟨rfl, hG, hb⟩ := Did.low hd hs6
      rw [HR3.out] at hG ⊢
      have HG7 : Hid (GB u7 W.heap.size (wg.heap.size + 2) 4000 ks4) := hG
      have hb7 : Below W.heap.size W u7 := hb6.trans hb
      have hs7 := hb7.size
      clear hG hb hd HG6 hb6 hs6
      dsimp only
      go_wp2_with fail
      refine Calls.mono (mux_any HG7.out HC'.out HW.out.2.1 HW.out.1) ?_
      intro e u8 hd
      obtain ⟨rfl, hG, hb⟩ := Did.low hd hs7
      rw [HR4.out] at hG ⊢
      have HG8 : Hid (GB u8 W.heap.size (wg.heap.size + 2) 4000 ks4) := hG
      have hb8 : Below W.heap.size W u8 := hb7.trans hb
      have hs8 := hb8.size
      clear hG hb hd HG7 hb7 hs7
      dsimp only
      go_wp2_with fail
      refine Calls.mono (and_any HG8.out A' B') ?_
      intro e u9 hd
      obtain ⟨rfl, hG, hb⟩ := Did.low hd hs8
      rw [HR5.out] at hG ⊢
      have HG9 : Hid (GB u9 W.heap.size (wg.heap.size + 2) 4000 ks4) := hG
      have hb9 : Below W.heap.size W u9 := hb8.trans hb
      have hs9 := hb9.size
      clear hG hb hd HG8 hb8 hs8
      dsimp only
      go_wp2_with fail
      refine (HNO.out _ HG9.out).mono ?_
      rintro e wz ⟨rfl, hw⟩
      rw [hw]
      clear hw wz
      go_wp2_with fail
      go_ret
      exact ⟨rfl, hb9⟩
end Go.Proofs.Ytdmochghcmeebaa
