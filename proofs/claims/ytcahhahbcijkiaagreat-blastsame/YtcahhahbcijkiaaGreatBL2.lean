import Derived.Test.YtcahhahbcijkiaaGreatMg18
namespace Go.Proofs.YtcahhahbcijkiaaGreat.Ag
set_option maxHeartbeats 12800000
set_option maxRecDepth 100000
open Go.RowKit
set_option linter.unusedSimpArgs false
set_option linter.unusedVariables false
theorem andnot_bv (x : BitVec 64) : x &&& ~~~(1#64) = x ^^^ (x &&& 1#64) := by
 apply BitVec.eq_of_getLsbD_eq
 intro i hi
 simp only [BitVec.getLsbD_and, BitVec.getLsbD_not, BitVec.getLsbD_xor, hi, decide_true, Bool.true_and]
 cases x.getLsbD i <;> cases (1#64).getLsbD i <;> rfl
theorem toNat_small {n : Nat} (h : n < 131072) : (BitVec.ofInt 64 (n : Int)).toNat = n := by
 rw [BitVec.toNat_ofInt]
 have e64 : ((2 ^ 64 : Nat) : Int) = 18446744073709551616 := rfl
 rw [e64]
 omega
theorem xor_lt17 {a b : Nat} (ha : a < 131072) (hb : b < 131072) : a ^^^ b < 131072 := Nat.xor_lt_two_pow (n := 17) ha hb
theorem xor_bits {a b : Nat} (ha : a < 131072) (hb : b < 131072) : bits .xor .i64 (a : Int) (b : Int) = ((a ^^^ b : Nat) : Int) := by
 rw [bits_xor, BitVec.toNat_xor, toNat_small ha, toNat_small hb]
 have := xor_lt17 ha hb
 unfold wrap64
 omega
theorem xor_par (a b : Nat) : (a ^^^ b) % 2 = (a + b) % 2 := by
 have := @Nat.xor_mod_two_pow a b 1
 rw [Nat.pow_one] at this
 rw [this]
 rcases Nat.mod_two_eq_zero_or_one a with e | e <;> rcases Nat.mod_two_eq_zero_or_one b with e2 | e2 <;> rw [e, e2] <;> simp <;> omega
def Sm (a : Int) : Prop := 0 ≤ a ∧ a < 70000
theorem and1_bits {a : Int} (h : Sm a) : bits .and .i64 a 1 = a % 2 := by
 obtain ⟨n, rfl⟩ : ∃ n : Nat, a = (n : Int) := ⟨a.toNat, by have := h.1; omega⟩
 have h2 := h.2
 have h1 : bits .and .i64 (n : Int) 1 = IntKind.i64.wrap (((BitVec.ofInt 64 (n : Int) &&& BitVec.ofInt 64 1).toNat : Nat) : Int) := rfl
 rw [h1, IntKind.wrap_i64, BitVec.toNat_and, show (BitVec.ofInt 64 1).toNat = 1 from rfl, Nat.and_one_is_mod, toNat_small (by omega)]
 omega
theorem par_bits {a b : Int} (ha : Sm a) (hb : Sm b) : bits .and .i64 (bits .xor .i64 a b) 1 = (a + b) % 2 := by
 obtain ⟨n, rfl⟩ : ∃ n : Nat, a = (n : Int) := ⟨a.toNat, by have := ha.1; omega⟩
 obtain ⟨m, rfl⟩ : ∃ n : Nat, b = (n : Int) := ⟨b.toNat, by have := hb.1; omega⟩
 have h1 := ha.2
 have h2 := hb.2
 rw [xor_bits (by omega) (by omega)]
 have h3 := xor_lt17 (a := n) (b := m) (by omega) (by omega)
 have e : bits .and .i64 ((n ^^^ m : Nat) : Int) 1 = IntKind.i64.wrap (((BitVec.ofInt 64 ((n ^^^ m : Nat) : Int) &&& BitVec.ofInt 64 1).toNat : Nat) : Int) := rfl
 rw [e, IntKind.wrap_i64, BitVec.toNat_and, show (BitVec.ofInt 64 1).toNat = 1 from rfl, Nat.and_one_is_mod, toNat_small h3, xor_par]
 omega
theorem ev_bits {a : Int} (h : Sm a) : bits .andNot .i64 a 1 = ev0 a := by
 obtain ⟨n, rfl⟩ : ∃ n : Nat, a = (n : Int) := ⟨a.toNat, by have := h.1; omega⟩
 have h2 := h.2
 have h1 : bits .andNot .i64 (n : Int) 1 = IntKind.i64.wrap (((BitVec.ofInt 64 (n : Int) &&& ~~~ BitVec.ofInt 64 1).toNat : Nat) : Int) := rfl
 rw [h1, IntKind.wrap_i64, show BitVec.ofInt 64 1 = 1#64 from rfl, andnot_bv, BitVec.toNat_xor, BitVec.toNat_and, toNat_small (by omega), show (1#64 : BitVec 64).toNat = 1 from rfl, Nat.and_one_is_mod]
 unfold ev0
 rcases Nat.mod_two_eq_zero_or_one n with e | e
 ·rw [e, Nat.xor_zero]; omega
 ·rw [e, xor_one]; omega
def fl (x t : Int) : Int := if t = 1 then tu x else x
theorem fl_bits {x t : Int} (h : Sm x) (ht : t = 0 ∨ t = 1) : bits .xor .i64 x t = fl x t := by
 obtain ⟨n, rfl⟩ : ∃ n : Nat, x = (n : Int) := ⟨x.toNat, by have := h.1; omega⟩
 have h2 := h.2
 rcases ht with rfl | rfl
 ·have := xor_bits (a := n) (b := 0) (by omega) (by omega)
  rw [Nat.xor_zero] at this
  exact this
 ·have := xor_bits (a := n) (b := 1) (by omega) (by omega)
  rw [xor_one] at this
  rw [show ((1 : Int)) = ((1 : Nat) : Int) from rfl, this]
  unfold fl tu
  rw [if_pos (show ((1 : Nat) : Int) = 1 from rfl)]
  omega
theorem OkG.fl {s : Gz} {l : Int} (h : OkG s l) (t : Int) : OkG s (fl l t) := by
 unfold Go.Proofs.YtcahhahbcijkiaaGreat.Ag.fl
 split
 ·exact h.trn
 ·exact h
theorem Gn.sm {w : World} {F : Nat → Prop} {gs g mo : Nat} {s : Gz} (h : Gn w F gs g mo s) {l : Int} (hl : OkG s l) : Sm l := OkG.w64 h hl
theorem gOr_pre {mo : Nat} {s : Gz} {a b : Int} : Pg s.ks (gOr mo s a b).2.ks := gAnd_pre
theorem gOr_ok {mo : Nat} {s : Gz} {a b : Int} (hp : 0 < s.ks.length) : OkG (gOr mo s a b).2 (gOr mo s a b).1 := (gAnd_ok hp).trn
theorem Gn.pos {w : World} {F : Nat → Prop} {gs g mo : Nat} {s : Gz} (h : Gn w F gs g mo s) : 0 < s.ks.length := h.gr.inv.pos
def gCar (mo : Nat) (s : Gz) (a b h c : Int) : Int × Gz :=
 gOr mo (gAnd mo (gAnd mo s a b).2 h c).2 (gAnd mo s a b).1 (gAnd mo (gAnd mo s a b).2 h c).1
def gCarry (mo : Nat) (s : Gz) (a b h c : Int) : Int × Gz :=
 if (h + c) % 2 = 1 then (tu (gCar mo s (tu a) (tu b) h (tu c)).1, (gCar mo s (tu a) (tu b) h (tu c)).2) else gCar mo s a b h c
def gMaj (mo : Nat) (s : Gz) (a b c : Int) : Int × Gz :=
 if a = b then (a, s) else if c = 0 then gAnd mo s a b else
 gOr mo (gAnd mo (gOr mo (gAnd mo s a b).2 a b).2 (gOr mo (gAnd mo s a b).2 a b).1 c).2 (gAnd mo s a b).1 (gAnd mo (gOr mo (gAnd mo s a b).2 a b).2 (gOr mo (gAnd mo s a b).2 a b).1 c).1
def givF (l c : Int) : Int := if l = c then 1 else if l = tu c then 0 else l
def gMux0 (mo : Nat) (s : Gz) (c a b : Int) : Int × Gz :=
 let p := gAnd mo s c (fl a (a % 2))
 let q := gAnd mo p.2 (tu c) (fl b (a % 2))
 let z := gOr mo q.2 p.1 q.1
 (fl z.1 (a % 2), z.2)
def gMux (mo : Nat) (s : Gz) (c a0 b0 : Int) : Int × Gz :=
 let a := givF a0 c
 let b := givF b0 (tu c)
 if a = b then (a, s) else if a = tu b then gXor mo s c b else if a = 1 then gOr mo s c b else if a = 0 then gAnd mo s (tu c) b else if b = 1 then gOr mo s (tu c) a else if b = 0 then gAnd mo s c a else gMux0 mo s c a b
section
variable {w : World} {F : Nat → Prop} {gs g mo : Nat} {s : Gz}
theorem gxor_any (h : Gn w F gs g mo s) {a b : Int} (ha : OkG s a) (hb : OkG s b) :
  Calls Tryz.prog 129 #[.pointer (some ⟨gs, 0, none⟩), .int .i64 a, .int .i64 b] w (GD w F gs g mo (gXor mo s a b)) := by
 have x1 := par_bits (h.sm ha) (h.sm hb)
 have x2 := ev_bits (h.sm ha)
 have x3 := ev_bits (h.sm hb)
 obtain ⟨q, hq⟩ : ∃ q, q = gXor mo s a b := ⟨_, rfl⟩
 rw [← hq]
 obtain ⟨t, ht⟩ : ∃ t, t = (a + b) % 2 := ⟨_, rfl⟩
 rw [← ht] at x1
 have hea := ha.ev
 have heb := hb.ev
 have HQ : Hid (q = (fl (gAnd mo (gOr mo (gAnd mo s (ev0 a) (ev0 b)).2 (ev0 a) (ev0 b)).2 (tu (gAnd mo s (ev0 a) (ev0 b)).1) (gOr mo (gAnd mo s (ev0 a) (ev0 b)).2 (ev0 a) (ev0 b)).1).1 t, (gAnd mo (gOr mo (gAnd mo s (ev0 a) (ev0 b)).2 (ev0 a) (ev0 b)).2 (tu (gAnd mo s (ev0 a) (ev0 b)).1) (gOr mo (gAnd mo s (ev0 a) (ev0 b)).2 (ev0 a) (ev0 b)).1).2)) := by
  unfold Hid
  rw [hq, ht]
  rfl
 have ht2 : t = 0 ∨ t = 1 := by omega
 have HT2 : Hid _ := ht2
 obtain ⟨ea, hea2⟩ : ∃ y, y = ev0 a := ⟨_, rfl⟩
 obtain ⟨eb, heb2⟩ : ∃ y, y = ev0 b := ⟨_, rfl⟩
 rw [← hea2] at x2 hea HQ
 rw [← heb2] at x3 heb HQ
 have HC1 : Hid _ := gand_any h ea eb hea heb
 have hok1 := gAnd_ok (mo := mo) (a := ea) (b := eb) h.pos
 have hpr1 := gAnd_pre (mo := mo) (s := s) (a := ea) (b := eb)
 obtain ⟨p1, hp1⟩ : ∃ p, p = gAnd mo s ea eb := ⟨_, rfl⟩
 rw [← hp1] at HC1 hok1 hpr1 HQ
 have HA : Hid (OkG s ea ∧ OkG s eb ∧ OkG p1.2 p1.1 ∧ Pg s.ks p1.2.ks) := ⟨hea, heb, hok1, hpr1⟩
 have hl := h.lt
 clear ha hb hea heb hok1 hpr1 hq ht ht2 hea2 heb2 hp1 h
 go_enter Tryz.func129, Tryz.ntmps129
 go_wp2_with fail
 refine Calls.mono HC1.out ?_
 rintro ev w2 ⟨rfl, F2, hG2, hC2⟩
 have HT : Hid (∀ wx, Calls Tryz.prog 130 #[.int .i64 p1.1] wx fun e w' => e = .returned (.int .i64 (tu p1.1)) ∧ w' = wx) := fun wx => bturn_any (by have := hG2.sm HA.out.2.2.1; unfold Sm at this; omega) (by have := hG2.sm HA.out.2.2.1; unfold Sm at this; omega) wx
 have HC2 : Hid _ := gor_any hG2 (HA.out.1.grow HA.out.2.2.2) (HA.out.2.1.grow HA.out.2.2.2)
 have hok2 := gOr_ok (mo := mo) (a := ea) (b := eb) hG2.pos
 have hpr2 := gOr_pre (mo := mo) (s := p1.2) (a := ea) (b := eb)
 obtain ⟨p2, hp2⟩ : ∃ p, p = gOr mo p1.2 ea eb := ⟨_, rfl⟩
 rw [← hp2] at HC2 hok2 hpr2 HQ
 have HD2 : Hid _ := hC2
 have HO2 : Hid (OkG p2.2 (tu p1.1) ∧ OkG p2.2 p2.1) := ⟨(HA.out.2.2.1.trn).grow hpr2, hok2⟩
 clear hp2 hG2 hC2
 go_wp2_with fail
 refine (HT.out _).mono ?_
 rintro ev wz ⟨rfl, hz⟩
 rw [hz]
 clear hz wz
 go_wp2_with fail
 refine Calls.mono HC2.out ?_
 rintro ev w3 ⟨rfl, F3, hG3, hC3⟩
 have HC3 : Hid _ := gand_any hG3 (tu p1.1) p2.1 HO2.out.1 HO2.out.2
 have hok3 := gAnd_ok (mo := mo) (a := tu p1.1) (b := p2.1) hG3.pos
 obtain ⟨p3, hp3⟩ : ∃ p, p = gAnd mo p2.2 (tu p1.1) p2.1 := ⟨_, rfl⟩
 rw [← hp3] at HC3 hok3 HQ
 have HD3 : Hid _ := HD2.out.trans hC3
 clear hp3 hG3 hC3 hok2 hpr2
 go_wp2_with fail
 refine Calls.mono HC3.out ?_
 rintro ev w4 ⟨rfl, F4, hG4, hC4⟩
 have x4 := fl_bits (hG4.sm hok3) HT2.out
 have HF : Hid (∃ F', Gn w4 F' gs g mo q.2 ∧ Ch w w4 (FG F gs) (FG F' gs)) := ⟨F4, by rw [HQ.out]; exact hG4, HD3.out.trans hC4⟩
 clear hG4 hC4 hok3
 go_wp2_with fail
 go_ret
 exact ⟨by rw [HQ.out]; rfl, HF.out⟩
theorem gXor_pre {a b : Int} : Pg s.ks (gXor mo s a b).2.ks := by
 unfold gXor
 exact gAnd_pre.trans (gOr_pre.trans gAnd_pre)
theorem gXor_ok {a b : Int} (hp : 0 < s.ks.length) : OkG (gXor mo s a b).2 (gXor mo s a b).1 := by
 have hp2 : 0 < (gOr mo (gAnd mo s (ev0 a) (ev0 b)).2 (ev0 a) (ev0 b)).2.ks.length := by
  have h1 := (gAnd_pre (mo := mo) (s := s) (a := ev0 a) (b := ev0 b)).length_le
  have h2 := (gOr_pre (mo := mo) (s := (gAnd mo s (ev0 a) (ev0 b)).2) (a := ev0 a) (b := ev0 b)).length_le
  omega
 have := gAnd_ok (mo := mo) (a := tu (gAnd mo s (ev0 a) (ev0 b)).1) (b := (gOr mo (gAnd mo s (ev0 a) (ev0 b)).2 (ev0 a) (ev0 b)).1) hp2
 exact this.fl _
theorem gcar_any (h : Gn w F gs g mo s) {a b f c : Int} (ha : OkG s a) (hb : OkG s b) (hf : OkG s f) (hc : OkG s c) (hpar : (f + c) % 2 = 0) :
  Calls Tryz.prog 139 #[.pointer (some ⟨gs, 0, none⟩), .int .i64 a, .int .i64 b, .int .i64 f, .int .i64 c] w (GD w F gs g mo (gCar mo s a b f c)) := by
 have x1 := par_bits (h.sm hf) (h.sm hc)
 rw [hpar] at x1
 obtain ⟨q, hq⟩ : ∃ q, q = gCar mo s a b f c := ⟨_, rfl⟩
 rw [← hq]
 have HQ : Hid (q = gOr mo (gAnd mo (gAnd mo s a b).2 f c).2 (gAnd mo s a b).1 (gAnd mo (gAnd mo s a b).2 f c).1) := hq
 have HC1 : Hid _ := gand_any h (a) (b) ha hb
 have HFC : Hid (OkG s f ∧ OkG s c) := ⟨hf, hc⟩
 have hok1 := gAnd_ok (mo := mo) (a := a) (b := b) h.pos
 have hpr1 := gAnd_pre (mo := mo) (s := s) (a := a) (b := b)
 obtain ⟨p1, hp1⟩ : ∃ p, p = gAnd mo s a b := ⟨_, rfl⟩
 rw [← hp1] at HC1 hok1 hpr1 HQ
 have HOK1 : Hid (OkG p1.2 p1.1 ∧ Pg s.ks p1.2.ks ∧ Pg s.ks p1.2.ks) := ⟨hok1, hpr1, hpr1⟩
 have HD0 : Hid (Ch w w (FG F gs) (FG F gs)) := Ch.refl _ _
 clear hp1 hok1 hpr1
 clear ha hb hf hc hpar hq h
 go_enter Tryz.func139, Tryz.ntmps139
 go_wp2_with fail
 refine Calls.mono HC1.out ?_
 rintro ev w1 ⟨rfl, F1, hG1, hC1⟩
 have HC2 : Hid _ := gand_any hG1 (f) (c) (HFC.out.1.grow HOK1.out.2.2) (HFC.out.2.grow HOK1.out.2.2)
 have hok2 := gAnd_ok (mo := mo) (a := f) (b := c) hG1.pos
 have hpr2 := gAnd_pre (mo := mo) (s := p1.2) (a := f) (b := c)
 obtain ⟨p2, hp2⟩ : ∃ p, p = gAnd mo p1.2 f c := ⟨_, rfl⟩
 rw [← hp2] at HC2 hok2 hpr2 HQ
 have HOK2 : Hid (OkG p2.2 p2.1 ∧ Pg p1.2.ks p2.2.ks ∧ Pg s.ks p2.2.ks) := ⟨hok2, hpr2, HOK1.out.2.2.trans hpr2⟩
 have HD1 : Hid (Ch w w1 (FG F gs) (FG F1 gs)) := HD0.out.trans hC1
 clear hp2 hok2 hpr2 hG1 hC1
 go_wp2_with fail
 refine Calls.mono HC2.out ?_
 rintro ev w2 ⟨rfl, F2, hG2, hC2⟩
 have HC3 : Hid _ := gor_any hG2 (a := p1.1) (b := p2.1) (HOK1.out.1.grow HOK2.out.2.1) HOK2.out.1
 have hok3 := gOr_ok (mo := mo) (a := p1.1) (b := p2.1) hG2.pos
 have hpr3 := gOr_pre (mo := mo) (s := p2.2) (a := p1.1) (b := p2.1)
 obtain ⟨p3, hp3⟩ : ∃ p, p = gOr mo p2.2 p1.1 p2.1 := ⟨_, rfl⟩
 rw [← hp3] at HC3 hok3 hpr3 HQ
 have HOK3 : Hid (OkG p3.2 p3.1 ∧ Pg p2.2.ks p3.2.ks ∧ Pg s.ks p3.2.ks) := ⟨hok3, hpr3, HOK2.out.2.2.trans hpr3⟩
 have HD2 : Hid (Ch w w2 (FG F gs) (FG F2 gs)) := HD1.out.trans hC2
 clear hp3 hok3 hpr3 hG2 hC2
 go_wp2_with fail
 refine Calls.mono HC3.out ?_
 rintro ev w3 ⟨rfl, F3, hG3, hC3⟩
 have HF : Hid (∃ F', Gn w3 F' gs g mo q.2 ∧ Ch w w3 (FG F gs) (FG F' gs)) := ⟨F3, by rw [HQ.out]; exact hG3, HD2.out.trans hC3⟩
 clear hG3 hC3
 go_wp2_with fail
 go_ret
 exact ⟨by rw [HQ.out]; rfl, HF.out⟩
theorem gCar_pre {a b f c : Int} : Pg s.ks (gCar mo s a b f c).2.ks := gAnd_pre.trans (gAnd_pre.trans gOr_pre)
theorem gCar_ok {a b f c : Int} (hp : 0 < s.ks.length) : OkG (gCar mo s a b f c).2 (gCar mo s a b f c).1 := gOr_ok (by
 have h1 := (gAnd_pre (mo := mo) (s := s) (a := a) (b := b)).length_le
 have h2 := (gAnd_pre (mo := mo) (s := (gAnd mo s a b).2) (a := f) (b := c)).length_le
 omega)
theorem gCarry_pre {a b f c : Int} : Pg s.ks (gCarry mo s a b f c).2.ks := by
 unfold gCarry
 split
 ·exact gCar_pre
 ·exact gCar_pre
theorem gCarry_ok {a b f c : Int} (hp : 0 < s.ks.length) : OkG (gCarry mo s a b f c).2 (gCarry mo s a b f c).1 := by
 unfold gCarry
 split
 ·exact (gCar_ok hp).trn
 ·exact gCar_ok hp
theorem gcarry_any (h : Gn w F gs g mo s) {a b f c : Int} (ha : OkG s a) (hb : OkG s b) (hf : OkG s f) (hc : OkG s c) :
  Calls Tryz.prog 139 #[.pointer (some ⟨gs, 0, none⟩), .int .i64 a, .int .i64 b, .int .i64 f, .int .i64 c] w (GD w F gs g mo (gCarry mo s a b f c)) := by
 by_cases hpar : (f + c) % 2 = 1
 ·have x1 := par_bits (h.sm hf) (h.sm hc)
  rw [hpar] at x1
  have HQ0 : Hid (gCarry mo s a b f c = (tu (gCar mo s (tu a) (tu b) f (tu c)).1, (gCar mo s (tu a) (tu b) f (tu c)).2)) := by
   unfold Hid gCarry
   rw [if_pos hpar]
  have HC : Hid _ := gcar_any h ha.trn hb.trn hf hc.trn (by unfold tu; omega)
  have hok := gCar_ok (mo := mo) (a := tu a) (b := tu b) (f := f) (c := tu c) h.pos
  obtain ⟨p, hp⟩ : ∃ p, p = gCar mo s (tu a) (tu b) f (tu c) := ⟨_, rfl⟩
  rw [← hp] at HC hok HQ0
  obtain ⟨q, hq⟩ : ∃ q, q = gCarry mo s a b f c := ⟨_, rfl⟩
  rw [← hq] at HQ0 ⊢
  have HQ : Hid (q = (tu p.1, p.2)) := HQ0.out
  have HO : Hid _ := hok
  have HTA : Hid (∀ wx, Calls Tryz.prog 130 #[.int .i64 a] wx fun e w' => e = .returned (.int .i64 (tu a)) ∧ w' = wx) := fun wx => bturn_any (by have := h.sm ha; unfold Sm at this; omega) (by have := h.sm ha; unfold Sm at this; omega) wx
  have HTB : Hid (∀ wx, Calls Tryz.prog 130 #[.int .i64 b] wx fun e w' => e = .returned (.int .i64 (tu b)) ∧ w' = wx) := fun wx => bturn_any (by have := h.sm hb; unfold Sm at this; omega) (by have := h.sm hb; unfold Sm at this; omega) wx
  have HTC : Hid (∀ wx, Calls Tryz.prog 130 #[.int .i64 c] wx fun e w' => e = .returned (.int .i64 (tu c)) ∧ w' = wx) := fun wx => bturn_any (by have := h.sm hc; unfold Sm at this; omega) (by have := h.sm hc; unfold Sm at this; omega) wx
  clear ha hb hf hc hpar hq h hok hp HQ0
  go_enter Tryz.func139, Tryz.ntmps139
  go_wp2_with fail
  refine (HTA.out _).mono ?_
  rintro ev wz ⟨rfl, hz⟩
  rw [hz]
  clear hz wz
  go_wp2_with fail
  refine (HTB.out _).mono ?_
  rintro ev wz ⟨rfl, hz⟩
  rw [hz]
  clear hz wz
  go_wp2_with fail
  refine (HTC.out _).mono ?_
  rintro ev wz ⟨rfl, hz⟩
  rw [hz]
  clear hz wz
  go_wp2_with fail
  refine Calls.mono HC.out ?_
  rintro ev w2 ⟨rfl, F2, hG2, hC2⟩
  have HT : Hid (∀ wx, Calls Tryz.prog 130 #[.int .i64 p.1] wx fun e w' => e = .returned (.int .i64 (tu p.1)) ∧ w' = wx) := fun wx => bturn_any (by have := hG2.sm HO.out; unfold Sm at this; omega) (by have := hG2.sm HO.out; unfold Sm at this; omega) wx
  have HF : Hid (∃ F', Gn w2 F' gs g mo q.2 ∧ Ch w w2 (FG F gs) (FG F' gs)) := ⟨F2, by rw [HQ.out]; exact hG2, hC2⟩
  clear hG2 hC2
  go_wp2_with fail
  refine (HT.out _).mono ?_
  rintro ev wz ⟨rfl, hz⟩
  rw [hz]
  clear hz wz
  go_wp2_with fail
  go_ret
  exact ⟨by rw [HQ.out]; rfl, HF.out⟩
 ·have e : gCarry mo s a b f c = gCar mo s a b f c := by
   unfold gCarry
   rw [if_neg hpar]
  rw [e]
  exact gcar_any h ha hb hf hc (by omega)
theorem gmaj_any (h : Gn w F gs g mo s) {a b c : Int} (ha : OkG s a) (hb : OkG s b) (hc : OkG s c) :
  Calls Tryz.prog 149 #[.pointer (some ⟨gs, 0, none⟩), .int .i64 a, .int .i64 b, .int .i64 c] w (GD w F gs g mo (gMaj mo s a b c)) := by
 by_cases hab : a = b
 ·have HQ : Hid (gMaj mo s a b c = (a, s)) := by unfold Hid gMaj; rw [if_pos hab]
  obtain ⟨q, hq⟩ : ∃ q, q = gMaj mo s a b c := ⟨_, rfl⟩
  rw [← hq] at HQ ⊢
  have H : Hid _ := h
  subst hab
  have z : (a == a) = true := by simp
  clear ha hb hc hq h
  go_enter Tryz.func149, Tryz.ntmps149
  go_wp2_with fail
  go_ret
  refine ⟨by rw [HQ.out]; rfl, F, ?_, Ch.refl _ _⟩
  rw [HQ.out]; exact H.out
 have z : (a == b) = false := by simp [hab]
 by_cases hc0 : c = 0
 ·have HQ0 : Hid (gMaj mo s a b c = gAnd mo s a b) := by unfold Hid gMaj; rw [if_neg hab, if_pos hc0]
  obtain ⟨q, hq⟩ : ∃ q, q = gMaj mo s a b c := ⟨_, rfl⟩
  rw [← hq] at HQ0 ⊢
  have HQ : Hid (q = gAnd mo s a b) := HQ0.out
  subst hc0
  have HC1 : Hid _ := gand_any h (a) (b) ha hb
  have hok1 := gAnd_ok (mo := mo) (a := a) (b := b) h.pos
  have hpr1 := gAnd_pre (mo := mo) (s := s) (a := a) (b := b)
  obtain ⟨p1, hp1⟩ : ∃ p, p = gAnd mo s a b := ⟨_, rfl⟩
  rw [← hp1] at HC1 hok1 hpr1 HQ
  have HOK1 : Hid (OkG p1.2 p1.1 ∧ Pg s.ks p1.2.ks ∧ Pg s.ks p1.2.ks) := ⟨hok1, hpr1, hpr1⟩
  have HD0 : Hid (Ch w w (FG F gs) (FG F gs)) := Ch.refl _ _
  clear hp1 hok1 hpr1
  clear ha hb hc hq h HQ0 hab
  go_enter Tryz.func149, Tryz.ntmps149
  go_wp2_with fail
  refine Calls.mono HC1.out ?_
  rintro ev w1 ⟨rfl, F1, hG1, hC1⟩
  have HF : Hid (∃ F', Gn w1 F' gs g mo q.2 ∧ Ch w w1 (FG F gs) (FG F' gs)) := ⟨F1, by rw [HQ.out]; exact hG1, HD0.out.trans hC1⟩
  clear hG1 hC1
  go_wp2_with fail
  go_ret
  exact ⟨by rw [HQ.out]; rfl, HF.out⟩
 have z2 : (c == 0) = false := by simp [hc0]
 have HQ0 : Hid (gMaj mo s a b c = gOr mo (gAnd mo (gOr mo (gAnd mo s a b).2 a b).2 (gOr mo (gAnd mo s a b).2 a b).1 c).2 (gAnd mo s a b).1 (gAnd mo (gOr mo (gAnd mo s a b).2 a b).2 (gOr mo (gAnd mo s a b).2 a b).1 c).1) := by unfold Hid gMaj; rw [if_neg hab, if_neg hc0]
 obtain ⟨q, hq⟩ : ∃ q, q = gMaj mo s a b c := ⟨_, rfl⟩
 rw [← hq] at HQ0 ⊢
 have HQ : Hid (q = gOr mo (gAnd mo (gOr mo (gAnd mo s a b).2 a b).2 (gOr mo (gAnd mo s a b).2 a b).1 c).2 (gAnd mo s a b).1 (gAnd mo (gOr mo (gAnd mo s a b).2 a b).2 (gOr mo (gAnd mo s a b).2 a b).1 c).1) := HQ0.out
 have HA : Hid (OkG s a ∧ OkG s b) := ⟨ha, hb⟩
 have HCC : Hid (OkG s c) := hc
 have HC1 : Hid _ := gand_any h (a) (b) ha hb
 have hok1 := gAnd_ok (mo := mo) (a := a) (b := b) h.pos
 have hpr1 := gAnd_pre (mo := mo) (s := s) (a := a) (b := b)
 obtain ⟨p1, hp1⟩ : ∃ p, p = gAnd mo s a b := ⟨_, rfl⟩
 rw [← hp1] at HC1 hok1 hpr1 HQ
 have HOK1 : Hid (OkG p1.2 p1.1 ∧ Pg s.ks p1.2.ks ∧ Pg s.ks p1.2.ks) := ⟨hok1, hpr1, hpr1⟩
 have HD0 : Hid (Ch w w (FG F gs) (FG F gs)) := Ch.refl _ _
 clear hp1 hok1 hpr1
 clear ha hb hc hq h HQ0 hab hc0
 go_enter Tryz.func149, Tryz.ntmps149
 go_wp2_with fail
 refine Calls.mono HC1.out ?_
 rintro ev w1 ⟨rfl, F1, hG1, hC1⟩
 have HC2 : Hid _ := gor_any hG1 (a := a) (b := b) (HA.out.1.grow HOK1.out.2.2) (HA.out.2.grow HOK1.out.2.2)
 have hok2 := gOr_ok (mo := mo) (a := a) (b := b) hG1.pos
 have hpr2 := gOr_pre (mo := mo) (s := p1.2) (a := a) (b := b)
 obtain ⟨p2, hp2⟩ : ∃ p, p = gOr mo p1.2 a b := ⟨_, rfl⟩
 rw [← hp2] at HC2 hok2 hpr2 HQ
 have HOK2 : Hid (OkG p2.2 p2.1 ∧ Pg p1.2.ks p2.2.ks ∧ Pg s.ks p2.2.ks) := ⟨hok2, hpr2, HOK1.out.2.2.trans hpr2⟩
 have HD1 : Hid (Ch w w1 (FG F gs) (FG F1 gs)) := HD0.out.trans hC1
 clear hp2 hok2 hpr2 hG1 hC1
 go_wp2_with fail
 refine Calls.mono HC2.out ?_
 rintro ev w2 ⟨rfl, F2, hG2, hC2⟩
 have HC3 : Hid _ := gand_any hG2 (p2.1) (c) HOK2.out.1 (HCC.out.grow HOK2.out.2.2)
 have hok3 := gAnd_ok (mo := mo) (a := p2.1) (b := c) hG2.pos
 have hpr3 := gAnd_pre (mo := mo) (s := p2.2) (a := p2.1) (b := c)
 obtain ⟨p3, hp3⟩ : ∃ p, p = gAnd mo p2.2 p2.1 c := ⟨_, rfl⟩
 rw [← hp3] at HC3 hok3 hpr3 HQ
 have HOK3 : Hid (OkG p3.2 p3.1 ∧ Pg p2.2.ks p3.2.ks ∧ Pg s.ks p3.2.ks) := ⟨hok3, hpr3, HOK2.out.2.2.trans hpr3⟩
 have HD2 : Hid (Ch w w2 (FG F gs) (FG F2 gs)) := HD1.out.trans hC2
 clear hp3 hok3 hpr3 hG2 hC2
 go_wp2_with fail
 refine Calls.mono HC3.out ?_
 rintro ev w3 ⟨rfl, F3, hG3, hC3⟩
 have HC4 : Hid _ := gor_any hG3 (a := p1.1) (b := p3.1) ((HOK1.out.1.grow HOK2.out.2.1).grow HOK3.out.2.1) HOK3.out.1
 have hok4 := gOr_ok (mo := mo) (a := p1.1) (b := p3.1) hG3.pos
 have hpr4 := gOr_pre (mo := mo) (s := p3.2) (a := p1.1) (b := p3.1)
 obtain ⟨p4, hp4⟩ : ∃ p, p = gOr mo p3.2 p1.1 p3.1 := ⟨_, rfl⟩
 rw [← hp4] at HC4 hok4 hpr4 HQ
 have HOK4 : Hid (OkG p4.2 p4.1 ∧ Pg p3.2.ks p4.2.ks ∧ Pg s.ks p4.2.ks) := ⟨hok4, hpr4, HOK3.out.2.2.trans hpr4⟩
 have HD3 : Hid (Ch w w3 (FG F gs) (FG F3 gs)) := HD2.out.trans hC3
 clear hp4 hok4 hpr4 hG3 hC3
 go_wp2_with fail
 refine Calls.mono HC4.out ?_
 rintro ev w4 ⟨rfl, F4, hG4, hC4⟩
 have HF : Hid (∃ F', Gn w4 F' gs g mo q.2 ∧ Ch w w4 (FG F gs) (FG F' gs)) := ⟨F4, by rw [HQ.out]; exact hG4, HD3.out.trans hC4⟩
 clear hG4 hC4
 go_wp2_with fail
 go_ret
 exact ⟨by rw [HQ.out]; rfl, HF.out⟩
end
end Go.Proofs.YtcahhahbcijkiaaGreat.Ag
