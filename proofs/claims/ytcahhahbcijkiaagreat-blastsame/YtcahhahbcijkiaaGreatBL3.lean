import Derived.Test.YtcahhahbcijkiaaGreatBL2
namespace Go.Proofs.YtcahhahbcijkiaaGreat.Ag
set_option maxHeartbeats 12800000
set_option maxRecDepth 100000
open Go.RowKit
set_option linter.unusedSimpArgs false
set_option linter.unusedVariables false
section
variable {w : World} {F : Nat → Prop} {gs g mo : Nat} {s : Gz}
theorem givF_ok {l c : Int} (hp : 0 < s.ks.length) (hl : OkG s l) : OkG s (givF l c) := by
 unfold givF
 split
 ·exact ⟨by omega, by omega⟩
 ·split
  ·exact ⟨by omega, by omega⟩
  ·exact hl
theorem given_any {l c : Int} (hc : Sm c) (w : World) :
  Calls Tryz.prog 132 #[.int .i64 l, .int .i64 c] w fun e w' => e = .returned (.int .i64 (givF l c)) ∧ w' = w := by
 have HT : Hid (∀ wx, Calls Tryz.prog 130 #[.int .i64 c] wx fun e w' => e = .returned (.int .i64 (tu c)) ∧ w' = wx) := fun wx => bturn_any (by have := hc; unfold Sm at this; omega) (by have := hc; unfold Sm at this; omega) wx
 obtain ⟨q, hq⟩ : ∃ q, q = givF l c := ⟨_, rfl⟩
 rw [← hq]
 have HQ : Hid (q = if l = c then 1 else if l = tu c then 0 else l) := hq
 clear hq hc
 by_cases h1 : l = c
 ·have HQ1 : Hid (q = 1) := by unfold Hid; rw [HQ.out, if_pos h1]
  subst h1
  have z : (l == l) = true := by simp
  go_enter Tryz.func132, Tryz.ntmps132
  go_wp2_with fail
  go_ret
  exact ⟨by rw [HQ1.out]; rfl, rfl⟩
 have z : (l == c) = false := by simp [h1]
 obtain ⟨t, ht⟩ : ∃ t, t = tu c := ⟨_, rfl⟩
 rw [← ht] at HT HQ
 by_cases h2 : l = t
 ·have HQ1 : Hid (q = 0) := by unfold Hid; rw [HQ.out, if_neg h1, if_pos h2]
  subst h2
  have z2 : (l == l) = true := by simp
  clear HQ ht h1
  go_enter Tryz.func132, Tryz.ntmps132
  go_wp2_with fail
  refine (HT.out _).mono ?_
  rintro ev wz ⟨rfl, hz⟩
  rw [hz]
  clear hz wz
  go_wp2_with fail
  go_ret
  exact ⟨by rw [HQ1.out]; rfl, rfl⟩
 ·have HQ1 : Hid (q = l) := by unfold Hid; rw [HQ.out, if_neg h1, if_neg h2]
  have z2 : (l == t) = false := by simp [h2]
  clear HQ ht h1 h2
  go_enter Tryz.func132, Tryz.ntmps132
  go_wp2_with fail
  refine (HT.out _).mono ?_
  rintro ev wz ⟨rfl, hz⟩
  rw [hz]
  clear hz wz
  go_wp2_with fail
  go_ret
  exact ⟨by rw [HQ1.out]; rfl, rfl⟩
theorem gmux_any (h : Gn w F gs g mo s) {c a0 b0 : Int} (hc : OkG s c) (ha0 : OkG s a0) (hb0 : OkG s b0) :
  Calls Tryz.prog 95 #[.pointer (some ⟨gs, 0, none⟩), .int .i64 c, .int .i64 a0, .int .i64 b0] w (GD w F gs g mo (gMux mo s c a0 b0)) := by
 have HGA : Hid (∀ wx, Calls Tryz.prog 132 #[.int .i64 a0, .int .i64 c] wx fun e w' => e = .returned (.int .i64 (givF a0 c)) ∧ w' = wx) := fun wx => given_any (h.sm hc) wx
 have HGB : Hid (∀ wx, Calls Tryz.prog 132 #[.int .i64 b0, .int .i64 (tu c)] wx fun e w' => e = .returned (.int .i64 (givF b0 (tu c))) ∧ w' = wx) := fun wx => given_any (h.sm hc.trn) wx
 have HTC : Hid (∀ wx, Calls Tryz.prog 130 #[.int .i64 c] wx fun e w' => e = .returned (.int .i64 (tu c)) ∧ w' = wx) := fun wx => bturn_any (by have := h.sm hc; unfold Sm at this; omega) (by have := h.sm hc; unfold Sm at this; omega) wx
 have ha := givF_ok (c := c) h.pos ha0
 have hb := givF_ok (c := tu c) h.pos hb0
 have htc := hc.trn
 obtain ⟨q, hq⟩ : ∃ q, q = gMux mo s c a0 b0 := ⟨_, rfl⟩
 rw [← hq]
 have HQ0 : Hid (q = if givF a0 c = givF b0 (tu c) then (givF a0 c, s) else if givF a0 c = tu (givF b0 (tu c)) then gXor mo s c (givF b0 (tu c)) else if givF a0 c = 1 then gOr mo s c (givF b0 (tu c)) else if givF a0 c = 0 then gAnd mo s (tu c) (givF b0 (tu c)) else if givF b0 (tu c) = 1 then gOr mo s (tu c) (givF a0 c) else if givF b0 (tu c) = 0 then gAnd mo s c (givF a0 c) else gMux0 mo s c (givF a0 c) (givF b0 (tu c))) := hq
 obtain ⟨a, hae⟩ : ∃ y, y = givF a0 c := ⟨_, rfl⟩
 obtain ⟨b, hbe⟩ : ∃ y, y = givF b0 (tu c) := ⟨_, rfl⟩
 rw [← hae] at HGA ha HQ0
 rw [← hbe] at HGB hb HQ0
 have HTB : Hid (∀ wx, Calls Tryz.prog 130 #[.int .i64 b] wx fun e w' => e = .returned (.int .i64 (tu b)) ∧ w' = wx) := fun wx => bturn_any (by have := h.sm hb; unfold Sm at this; omega) (by have := h.sm hb; unfold Sm at this; omega) wx
 obtain ⟨tb, htb⟩ : ∃ y, y = tu b := ⟨_, rfl⟩
 rw [← htb] at HTB HQ0
 obtain ⟨tc, htce⟩ : ∃ y, y = tu c := ⟨_, rfl⟩
 rw [← htce] at HTC HGB htc HQ0
 have H : Hid _ := h
 have HTCE : Hid (tc = tu c) := htce
 clear hq hae hbe ha0 hb0 htb htce
 by_cases h1 : a = b
 ·have HQ : Hid (q = (a, s)) := by unfold Hid; rw [HQ0.out, if_pos h1]
  subst h1
  have z1 : (a == a) = true := by simp
  clear HQ0 ha hb hc htc h
  go_enter Tryz.func95, Tryz.ntmps95
  go_wp2_with fail
  refine (HGA.out _).mono ?_
  rintro ev wz ⟨rfl, hz⟩
  rw [hz]
  clear hz wz
  go_wp2_with fail
  refine (HTC.out _).mono ?_
  rintro ev wz ⟨rfl, hz⟩
  rw [hz]
  clear hz wz
  go_wp2_with fail
  refine (HGB.out _).mono ?_
  rintro ev wz ⟨rfl, hz⟩
  rw [hz]
  clear hz wz
  go_wp2_with fail
  go_ret
  refine ⟨by rw [HQ.out]; rfl, F, ?_, Ch.refl _ _⟩
  rw [HQ.out]; exact H.out
 have z1 : (a == b) = false := by simp [h1]
 by_cases h2 : a = tb
 ·have HQ : Hid (q = gXor mo s c b) := by unfold Hid; rw [HQ0.out, if_neg h1, if_pos h2]
  have HC1 : Hid _ := gxor_any h (a := c) (b := b) hc hb
  have hok1 := gXor_ok (mo := mo) (a := c) (b := b) h.pos
  have hpr1 := gXor_pre (mo := mo) (s := s) (a := c) (b := b)
  obtain ⟨p1, hp1⟩ : ∃ p, p = gXor mo s c b := ⟨_, rfl⟩
  rw [← hp1] at HC1 hok1 hpr1 HQ
  have HOK1 : Hid (OkG p1.2 p1.1 ∧ Pg s.ks p1.2.ks ∧ Pg s.ks p1.2.ks) := ⟨hok1, hpr1, hpr1⟩
  have HD0 : Hid (Ch w w (FG F gs) (FG F gs)) := Ch.refl _ _
  clear hp1 hok1 hpr1
  have z2 : (a == tb) = true := by simp [h2]
  clear h1 h2
  clear HQ0 ha hb hc htc h
  go_enter Tryz.func95, Tryz.ntmps95
  go_wp2_with fail
  refine (HGA.out _).mono ?_
  rintro ev wz ⟨rfl, hz⟩
  rw [hz]
  clear hz wz
  go_wp2_with fail
  refine (HTC.out _).mono ?_
  rintro ev wz ⟨rfl, hz⟩
  rw [hz]
  clear hz wz
  go_wp2_with fail
  refine (HGB.out _).mono ?_
  rintro ev wz ⟨rfl, hz⟩
  rw [hz]
  clear hz wz
  go_wp2_with fail
  refine (HTB.out _).mono ?_
  rintro ev wz ⟨rfl, hz⟩
  rw [hz]
  clear hz wz
  go_wp2_with fail
  refine Calls.mono HC1.out ?_
  rintro ev w1 ⟨rfl, F1, hG1, hC1⟩
  have HF : Hid (∃ F', Gn w1 F' gs g mo q.2 ∧ Ch w w1 (FG F gs) (FG F' gs)) := ⟨F1, by rw [HQ.out]; exact hG1, HD0.out.trans hC1⟩
  clear hG1 hC1
  go_wp2_with fail
  go_ret
  exact ⟨by rw [HQ.out]; rfl, HF.out⟩
 have z2 : (a == tb) = false := by simp [h2]
 by_cases h3 : a = 1
 ·have HQ : Hid (q = gOr mo s c b) := by unfold Hid; rw [HQ0.out, if_neg h1, if_neg h2, if_pos h3]
  have HC1 : Hid _ := gor_any h (a := c) (b := b) hc hb
  have hok1 := gOr_ok (mo := mo) (a := c) (b := b) h.pos
  have hpr1 := gOr_pre (mo := mo) (s := s) (a := c) (b := b)
  obtain ⟨p1, hp1⟩ : ∃ p, p = gOr mo s c b := ⟨_, rfl⟩
  rw [← hp1] at HC1 hok1 hpr1 HQ
  have HOK1 : Hid (OkG p1.2 p1.1 ∧ Pg s.ks p1.2.ks ∧ Pg s.ks p1.2.ks) := ⟨hok1, hpr1, hpr1⟩
  have HD0 : Hid (Ch w w (FG F gs) (FG F gs)) := Ch.refl _ _
  clear hp1 hok1 hpr1
  have z3 : (a == 1) = true := by simp [h3]
  clear h1 h2 h3
  clear HQ0 ha hb hc htc h
  go_enter Tryz.func95, Tryz.ntmps95
  go_wp2_with fail
  refine (HGA.out _).mono ?_
  rintro ev wz ⟨rfl, hz⟩
  rw [hz]
  clear hz wz
  go_wp2_with fail
  refine (HTC.out _).mono ?_
  rintro ev wz ⟨rfl, hz⟩
  rw [hz]
  clear hz wz
  go_wp2_with fail
  refine (HGB.out _).mono ?_
  rintro ev wz ⟨rfl, hz⟩
  rw [hz]
  clear hz wz
  go_wp2_with fail
  refine (HTB.out _).mono ?_
  rintro ev wz ⟨rfl, hz⟩
  rw [hz]
  clear hz wz
  go_wp2_with fail
  refine Calls.mono HC1.out ?_
  rintro ev w1 ⟨rfl, F1, hG1, hC1⟩
  have HF : Hid (∃ F', Gn w1 F' gs g mo q.2 ∧ Ch w w1 (FG F gs) (FG F' gs)) := ⟨F1, by rw [HQ.out]; exact hG1, HD0.out.trans hC1⟩
  clear hG1 hC1
  go_wp2_with fail
  go_ret
  exact ⟨by rw [HQ.out]; rfl, HF.out⟩
 have z3 : (a == 1) = false := by simp [h3]
 by_cases h4 : a = 0
 ·have HQ : Hid (q = gAnd mo s tc b) := by unfold Hid; rw [HQ0.out, if_neg h1, if_neg h2, if_neg h3, if_pos h4]
  have HC1 : Hid _ := gand_any h (tc) (b) htc hb
  have hok1 := gAnd_ok (mo := mo) (a := tc) (b := b) h.pos
  have hpr1 := gAnd_pre (mo := mo) (s := s) (a := tc) (b := b)
  obtain ⟨p1, hp1⟩ : ∃ p, p = gAnd mo s tc b := ⟨_, rfl⟩
  rw [← hp1] at HC1 hok1 hpr1 HQ
  have HOK1 : Hid (OkG p1.2 p1.1 ∧ Pg s.ks p1.2.ks ∧ Pg s.ks p1.2.ks) := ⟨hok1, hpr1, hpr1⟩
  have HD0 : Hid (Ch w w (FG F gs) (FG F gs)) := Ch.refl _ _
  clear hp1 hok1 hpr1
  have z4 : (a == 0) = true := by simp [h4]
  clear h1 h2 h3 h4
  clear HQ0 ha hb hc htc h
  go_enter Tryz.func95, Tryz.ntmps95
  go_wp2_with fail
  refine (HGA.out _).mono ?_
  rintro ev wz ⟨rfl, hz⟩
  rw [hz]
  clear hz wz
  go_wp2_with fail
  refine (HTC.out _).mono ?_
  rintro ev wz ⟨rfl, hz⟩
  rw [hz]
  clear hz wz
  go_wp2_with fail
  refine (HGB.out _).mono ?_
  rintro ev wz ⟨rfl, hz⟩
  rw [hz]
  clear hz wz
  go_wp2_with fail
  refine (HTB.out _).mono ?_
  rintro ev wz ⟨rfl, hz⟩
  rw [hz]
  clear hz wz
  go_wp2_with fail
  refine (HTC.out _).mono ?_
  rintro ev wz ⟨rfl, hz⟩
  rw [hz]
  clear hz wz
  go_wp2_with fail
  refine Calls.mono HC1.out ?_
  rintro ev w1 ⟨rfl, F1, hG1, hC1⟩
  have HF : Hid (∃ F', Gn w1 F' gs g mo q.2 ∧ Ch w w1 (FG F gs) (FG F' gs)) := ⟨F1, by rw [HQ.out]; exact hG1, HD0.out.trans hC1⟩
  clear hG1 hC1
  go_wp2_with fail
  go_ret
  exact ⟨by rw [HQ.out]; rfl, HF.out⟩
 have z4 : (a == 0) = false := by simp [h4]
 by_cases h5 : b = 1
 ·have HQ : Hid (q = gOr mo s tc a) := by unfold Hid; rw [HQ0.out, if_neg h1, if_neg h2, if_neg h3, if_neg h4, if_pos h5]
  have HC1 : Hid _ := gor_any h (a := tc) (b := a) htc ha
  have hok1 := gOr_ok (mo := mo) (a := tc) (b := a) h.pos
  have hpr1 := gOr_pre (mo := mo) (s := s) (a := tc) (b := a)
  obtain ⟨p1, hp1⟩ : ∃ p, p = gOr mo s tc a := ⟨_, rfl⟩
  rw [← hp1] at HC1 hok1 hpr1 HQ
  have HOK1 : Hid (OkG p1.2 p1.1 ∧ Pg s.ks p1.2.ks ∧ Pg s.ks p1.2.ks) := ⟨hok1, hpr1, hpr1⟩
  have HD0 : Hid (Ch w w (FG F gs) (FG F gs)) := Ch.refl _ _
  clear hp1 hok1 hpr1
  have z5 : (b == 1) = true := by simp [h5]
  clear h1 h2 h3 h4 h5
  clear HQ0 ha hb hc htc h
  go_enter Tryz.func95, Tryz.ntmps95
  go_wp2_with fail
  refine (HGA.out _).mono ?_
  rintro ev wz ⟨rfl, hz⟩
  rw [hz]
  clear hz wz
  go_wp2_with fail
  refine (HTC.out _).mono ?_
  rintro ev wz ⟨rfl, hz⟩
  rw [hz]
  clear hz wz
  go_wp2_with fail
  refine (HGB.out _).mono ?_
  rintro ev wz ⟨rfl, hz⟩
  rw [hz]
  clear hz wz
  go_wp2_with fail
  refine (HTB.out _).mono ?_
  rintro ev wz ⟨rfl, hz⟩
  rw [hz]
  clear hz wz
  go_wp2_with fail
  refine (HTC.out _).mono ?_
  rintro ev wz ⟨rfl, hz⟩
  rw [hz]
  clear hz wz
  go_wp2_with fail
  refine Calls.mono HC1.out ?_
  rintro ev w1 ⟨rfl, F1, hG1, hC1⟩
  have HF : Hid (∃ F', Gn w1 F' gs g mo q.2 ∧ Ch w w1 (FG F gs) (FG F' gs)) := ⟨F1, by rw [HQ.out]; exact hG1, HD0.out.trans hC1⟩
  clear hG1 hC1
  go_wp2_with fail
  go_ret
  exact ⟨by rw [HQ.out]; rfl, HF.out⟩
 have z5 : (b == 1) = false := by simp [h5]
 by_cases h6 : b = 0
 ·have HQ : Hid (q = gAnd mo s c a) := by unfold Hid; rw [HQ0.out, if_neg h1, if_neg h2, if_neg h3, if_neg h4, if_neg h5, if_pos h6]
  have HC1 : Hid _ := gand_any h (c) (a) hc ha
  have hok1 := gAnd_ok (mo := mo) (a := c) (b := a) h.pos
  have hpr1 := gAnd_pre (mo := mo) (s := s) (a := c) (b := a)
  obtain ⟨p1, hp1⟩ : ∃ p, p = gAnd mo s c a := ⟨_, rfl⟩
  rw [← hp1] at HC1 hok1 hpr1 HQ
  have HOK1 : Hid (OkG p1.2 p1.1 ∧ Pg s.ks p1.2.ks ∧ Pg s.ks p1.2.ks) := ⟨hok1, hpr1, hpr1⟩
  have HD0 : Hid (Ch w w (FG F gs) (FG F gs)) := Ch.refl _ _
  clear hp1 hok1 hpr1
  have z6 : (b == 0) = true := by simp [h6]
  clear h1 h2 h3 h4 h5 h6
  clear HQ0 ha hb hc htc h
  go_enter Tryz.func95, Tryz.ntmps95
  go_wp2_with fail
  refine (HGA.out _).mono ?_
  rintro ev wz ⟨rfl, hz⟩
  rw [hz]
  clear hz wz
  go_wp2_with fail
  refine (HTC.out _).mono ?_
  rintro ev wz ⟨rfl, hz⟩
  rw [hz]
  clear hz wz
  go_wp2_with fail
  refine (HGB.out _).mono ?_
  rintro ev wz ⟨rfl, hz⟩
  rw [hz]
  clear hz wz
  go_wp2_with fail
  refine (HTB.out _).mono ?_
  rintro ev wz ⟨rfl, hz⟩
  rw [hz]
  clear hz wz
  go_wp2_with fail
  refine Calls.mono HC1.out ?_
  rintro ev w1 ⟨rfl, F1, hG1, hC1⟩
  have HF : Hid (∃ F', Gn w1 F' gs g mo q.2 ∧ Ch w w1 (FG F gs) (FG F' gs)) := ⟨F1, by rw [HQ.out]; exact hG1, HD0.out.trans hC1⟩
  clear hG1 hC1
  go_wp2_with fail
  go_ret
  exact ⟨by rw [HQ.out]; rfl, HF.out⟩
 have z6 : (b == 0) = false := by simp [h6]
 have x1 := and1_bits (h.sm ha)
 obtain ⟨t, ht⟩ : ∃ t, t = a % 2 := ⟨_, rfl⟩
 rw [← ht] at x1
 have ht2 : t = 0 ∨ t = 1 := by omega
 have x2 := fl_bits (h.sm ha) ht2
 have x3 := fl_bits (h.sm hb) ht2
 have HQ1 : Hid (q = (fl (gOr mo (gAnd mo (gAnd mo s c (fl a t)).2 tc (fl b t)).2 (gAnd mo s c (fl a t)).1 (gAnd mo (gAnd mo s c (fl a t)).2 tc (fl b t)).1).1 t, (gOr mo (gAnd mo (gAnd mo s c (fl a t)).2 tc (fl b t)).2 (gAnd mo s c (fl a t)).1 (gAnd mo (gAnd mo s c (fl a t)).2 tc (fl b t)).1).2)) := by
  unfold Hid
  rw [HQ0.out, if_neg h1, if_neg h2, if_neg h3, if_neg h4, if_neg h5, if_neg h6, ht, HTCE.out]
  rfl
 obtain ⟨fa, hfa⟩ : ∃ y, y = fl a t := ⟨_, rfl⟩
 obtain ⟨fb, hfb⟩ : ∃ y, y = fl b t := ⟨_, rfl⟩
 rw [← hfa] at x2 HQ1
 rw [← hfb] at x3 HQ1
 have HQ : Hid (q = (fl (gOr mo (gAnd mo (gAnd mo s c fa).2 tc fb).2 (gAnd mo s c fa).1 (gAnd mo (gAnd mo s c fa).2 tc fb).1).1 t, (gOr mo (gAnd mo (gAnd mo s c fa).2 tc fb).2 (gAnd mo s c fa).1 (gAnd mo (gAnd mo s c fa).2 tc fb).1).2)) := HQ1.out
 have HT2 : Hid _ := ht2
 have hofa : OkG s fa := by rw [hfa]; exact ha.fl t
 have HTF : Hid (OkG s tc ∧ OkG s fb) := ⟨htc, by rw [hfb]; exact hb.fl t⟩
 have HC1 : Hid _ := gand_any h (c) (fa) hc hofa
 clear hofa
 have hok1 := gAnd_ok (mo := mo) (a := c) (b := fa) h.pos
 have hpr1 := gAnd_pre (mo := mo) (s := s) (a := c) (b := fa)
 obtain ⟨p1, hp1⟩ : ∃ p, p = gAnd mo s c fa := ⟨_, rfl⟩
 rw [← hp1] at HC1 hok1 hpr1 HQ
 have HOK1 : Hid (OkG p1.2 p1.1 ∧ Pg s.ks p1.2.ks ∧ Pg s.ks p1.2.ks) := ⟨hok1, hpr1, hpr1⟩
 have HD0 : Hid (Ch w w (FG F gs) (FG F gs)) := Ch.refl _ _
 clear hp1 hok1 hpr1
 clear HQ0 HQ1 ha hb hc htc h h1 h2 h3 h4 h5 h6 ht ht2 hfa hfb
 go_enter Tryz.func95, Tryz.ntmps95
 go_wp2_with fail
 refine (HGA.out _).mono ?_
 rintro ev wz ⟨rfl, hz⟩
 rw [hz]
 clear hz wz
 go_wp2_with fail
 refine (HTC.out _).mono ?_
 rintro ev wz ⟨rfl, hz⟩
 rw [hz]
 clear hz wz
 go_wp2_with fail
 refine (HGB.out _).mono ?_
 rintro ev wz ⟨rfl, hz⟩
 rw [hz]
 clear hz wz
 go_wp2_with fail
 refine (HTB.out _).mono ?_
 rintro ev wz ⟨rfl, hz⟩
 rw [hz]
 clear hz wz
 go_wp2_with fail
 refine Calls.mono HC1.out ?_
 rintro ev w1 ⟨rfl, F1, hG1, hC1⟩
 have HC2 : Hid _ := gand_any hG1 (tc) (fb) (HTF.out.1.grow HOK1.out.2.2) (HTF.out.2.grow HOK1.out.2.2)
 have hok2 := gAnd_ok (mo := mo) (a := tc) (b := fb) hG1.pos
 have hpr2 := gAnd_pre (mo := mo) (s := p1.2) (a := tc) (b := fb)
 obtain ⟨p2, hp2⟩ : ∃ p, p = gAnd mo p1.2 tc fb := ⟨_, rfl⟩
 rw [← hp2] at HC2 hok2 hpr2 HQ
 have HOK2 : Hid (OkG p2.2 p2.1 ∧ Pg p1.2.ks p2.2.ks ∧ Pg s.ks p2.2.ks) := ⟨hok2, hpr2, HOK1.out.2.2.trans hpr2⟩
 have HD1 : Hid (Ch w w1 (FG F gs) (FG F1 gs)) := HD0.out.trans hC1
 clear hp2 hok2 hpr2 hG1 hC1
 go_wp2_with fail
 refine (HTC.out _).mono ?_
 rintro ev wz ⟨rfl, hz⟩
 rw [hz]
 clear hz wz
 go_wp2_with fail
 refine Calls.mono HC2.out ?_
 rintro ev w2 ⟨rfl, F2, hG2, hC2⟩
 have HC3 : Hid _ := gor_any hG2 (a := p1.1) (b := p2.1) (HOK1.out.1.grow HOK2.out.2.1) HOK2.out.1
 have hok3 := gOr_ok (mo := mo) (a := p1.1) (b := p2.1) hG2.pos
 have hpr3 := gOr_pre (mo := mo) (s := p2.2) (a := p1.1) (b := p2.1)
 obtain ⟨p3, hp3⟩ : ∃ p, p = gOr mo p2.2 p1.1 p2.1 := ⟨_, rfl⟩
 rw [← hp3] at HC3 hok3 hpr3 HQ
 have HOK3 : Hid (OkG p3.2 p3.1 ∧ Pg p2.2.ks p3.2.ks ∧ Pg s.ks p3.2.ks) := ⟨hok3, hpr3, HOK2.out.2.2.trans hpr3⟩
 have HD2 : Hid (Ch w w2 (FG F gs) (FG F2 gs)) := HD1.out.trans hC2
 clear hp3 hok3 hpr3 hG2 hC2
 go_wp2_with fail
 refine Calls.mono HC3.out ?_
 rintro ev w3 ⟨rfl, F3, hG3, hC3⟩
 have x4 := fl_bits (hG3.sm HOK3.out.1) HT2.out
 have HF : Hid (∃ F', Gn w3 F' gs g mo q.2 ∧ Ch w w3 (FG F gs) (FG F' gs)) := ⟨F3, by rw [HQ.out]; exact hG3, HD2.out.trans hC3⟩
 clear hG3 hC3
 go_wp2_with fail
 go_ret
 exact ⟨by rw [HQ.out]; rfl, HF.out⟩
theorem gMux_pre {c a b : Int} : Pg s.ks (gMux mo s c a b).2.ks := by
 unfold gMux
 simp only
 split
 ·exact Pg.refl _
 ·split
  ·exact gXor_pre
  ·split
   ·exact gOr_pre
   ·split
    ·exact gAnd_pre
    ·split
     ·exact gOr_pre
     ·split
      ·exact gAnd_pre
      ·exact gAnd_pre.trans (gAnd_pre.trans gOr_pre)
theorem gMux_ok {c a b : Int} (hp : 0 < s.ks.length) (ha : OkG s a) : OkG (gMux mo s c a b).2 (gMux mo s c a b).1 := by
 unfold gMux
 simp only
 split
 ·exact givF_ok hp ha
 ·split
  ·exact gXor_ok hp
  ·split
   ·exact gOr_ok hp
   ·split
    ·exact gAnd_ok hp
    ·split
     ·exact gOr_ok hp
     ·split
      ·exact gAnd_ok hp
      ·exact (gOr_ok (by
        have h1 := (gAnd_pre (mo := mo) (s := s) (a := c) (b := fl (givF a c) (givF a c % 2))).length_le
        have h2 := (gAnd_pre (mo := mo) (s := (gAnd mo s c (fl (givF a c) (givF a c % 2))).2) (a := tu c) (b := fl (givF b (tu c)) (givF a c % 2))).length_le
        omega)).fl _
def prF (a b c : Int) : Int × Int × Int := if (a + b) % 2 = 0 then (a, b, c) else if (a + c) % 2 = 0 then (a, c, b) else (b, c, a)
theorem paired_any {a b c : Int} (ha : Sm a) (hb : Sm b) (hc : Sm c) (w : World) :
  Calls Tryz.prog 138 #[.int .i64 a, .int .i64 b, .int .i64 c] w fun e w' => e = .returned (.tuple #[.int .i64 (prF a b c).1, .int .i64 (prF a b c).2.1, .int .i64 (prF a b c).2.2]) ∧ w' = w := by
 have x1 := par_bits ha hb
 have x2 := par_bits ha hc
 obtain ⟨q, hq⟩ : ∃ q, q = prF a b c := ⟨_, rfl⟩
 rw [← hq]
 have HQ : Hid (q = if (a + b) % 2 = 0 then (a, b, c) else if (a + c) % 2 = 0 then (a, c, b) else (b, c, a)) := hq
 clear hq
 by_cases h1 : (a + b) % 2 = 0
 ·have HQ1 : Hid (q = (a, b, c)) := by unfold Hid; rw [HQ.out, if_pos h1]
  rw [h1] at x1
  clear ha hb hc h1 HQ
  go_enter Tryz.func138, Tryz.ntmps138
  go_wp2_with fail
  go_ret3
  exact ⟨by rw [HQ1.out]; rfl, rfl⟩
 have h1' : (a + b) % 2 = 1 := by omega
 rw [h1'] at x1
 by_cases h2 : (a + c) % 2 = 0
 ·have HQ1 : Hid (q = (a, c, b)) := by unfold Hid; rw [HQ.out, if_neg h1, if_pos h2]
  rw [h2] at x2
  clear ha hb hc h1 h2 h1' HQ
  go_enter Tryz.func138, Tryz.ntmps138
  go_wp2_with fail
  go_ret3
  exact ⟨by rw [HQ1.out]; rfl, rfl⟩
 ·have HQ1 : Hid (q = (b, c, a)) := by unfold Hid; rw [HQ.out, if_neg h1, if_neg h2]
  have h2' : (a + c) % 2 = 1 := by omega
  rw [h2'] at x2
  clear ha hb hc h1 h2 h1' h2' HQ
  go_enter Tryz.func138, Tryz.ntmps138
  go_wp2_with fail
  go_ret3
  exact ⟨by rw [HQ1.out]; rfl, rfl⟩
end
end Go.Proofs.YtcahhahbcijkiaaGreat.Ag
