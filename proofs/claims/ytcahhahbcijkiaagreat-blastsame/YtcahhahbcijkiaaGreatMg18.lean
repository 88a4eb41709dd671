import Derived.Test.YtcahhahbcijkiaaGreatAG6
namespace Go.Proofs.YtcahhahbcijkiaaGreat.Ag
set_option maxHeartbeats 12800000
set_option maxRecDepth 100000
open Go.RowKit
set_option linter.unusedSimpArgs false
set_option linter.unusedVariables false
theorem litB_iff {N : Nat} {l : Int} : litB N l = true ↔ 0 ≤ l ∧ l < 2 * (N : Int) := by simp [litB]
def AnsOk (r : Ans) : Prop := (r.2.1 = 0 ∧ litB r.2.2.length r.1 = true) ∨ (r.1 = 0 ∧ (r.2.1 = 80 ∨ r.2.1 = 81))
theorem both_ok {mo : Nat} {ks : List Kd} {k : Kd} : AnsOk (bothF mo ks k) := by
 unfold bothF
 cases hf : ks.findIdx? (fun l => decide (l = k)) with
 | some i =>
  have := (List.getElem?_eq_some_iff.1 (find_some hf)).1
  exact Or.inl ⟨rfl, litB_iff.2 ⟨by dsimp only; omega, by dsimp only; omega⟩⟩
 | none =>
  dsimp only
  split
  ·exact Or.inr ⟨rfl, Or.inr rfl⟩
  ·exact Or.inl ⟨rfl, litB_iff.2 ⟨by dsimp only; omega, by simp; omega⟩⟩
theorem and_ok {mo : Nat} {ks : List Kd} (hp : 0 < ks.length) (a b : Int) : AnsOk (andF mo ks a b) := by
 unfold andF
 split
 ·next hv =>
  have hv' : (0 ≤ a ∧ a < 2 * (ks.length : Int)) ∧ (0 ≤ b ∧ b < 2 * (ks.length : Int)) := by
   rw [Bool.and_eq_true] at hv
   exact ⟨litB_iff.1 hv.1, litB_iff.1 hv.2⟩
  split
  ·exact Or.inl ⟨rfl, litB_iff.2 ⟨by dsimp only; omega, by dsimp only; omega⟩⟩
  ·split
   ·exact Or.inl ⟨rfl, litB_iff.2 ⟨by dsimp only; omega, by dsimp only; omega⟩⟩
   ·exact both_ok
 ·exact Or.inr ⟨rfl, Or.inl rfl⟩
theorem place_emod {k n : Int} (hn : 0 < n) : k % n = if k.tmod n < 0 then k.tmod n + n else k.tmod n := by
 rw [Int.tmod_eq_emod]
 have h1 := Int.emod_nonneg k (by omega : n ≠ 0)
 have h2 := Int.emod_lt_of_pos k hn
 have e : (n.natAbs : Int) = n := by omega
 split
 ·rw [if_neg (by omega)]; omega
 ·next hq =>
  have : ¬ n ∣ k := fun h => hq (Or.inr h)
  have h3 : k % n ≠ 0 := fun h => this (Int.dvd_of_emod_eq_zero h)
  rw [if_pos (by omega)]; omega
theorem tmod_rng {k n : Int} (hn : 0 < n) : -n ≤ k.tmod n ∧ k.tmod n < n := by
 have h1 := place_emod (k := k) hn
 have h2 := Int.emod_nonneg k (by omega : n ≠ 0)
 have h3 := Int.emod_lt_of_pos k hn
 split at h1 <;> omega
theorem place_any {k n : Int} (hn : 0 < n) (hn2 : n ≤ 1000000000) (w : World) :
  Calls Tryz.prog 7 #[.int .i64 k, .int .i64 n] w fun e w' => e = .returned (.int .i64 (k % n)) ∧ w' = w := by
 have hp := place_emod (k := k) hn
 obtain ⟨r1, r2⟩ := tmod_rng (k := k) hn
 obtain ⟨T, hT⟩ : ∃ T, T = k.tmod n := ⟨_, rfl⟩
 obtain ⟨R, hR⟩ : ∃ R, R = k % n := ⟨_, rfl⟩
 rw [← hR]
 rw [← hT, ← hR] at hp
 rw [← hT] at r1 r2
 have z : ¬ n = 0 := by omega
 have eT : k.tmod n = T := hT.symm
 have eW : wrap64 T = T := by unfold wrap64; omega
 by_cases hneg : T < 0
 ·rw [if_pos hneg] at hp
  have HR : Hid _ := hp
  clear hp hT hR
  go_enter Tryz.func7, Tryz.ntmps7
  go_wp2_with fail
  go_ret
  exact ⟨by rw [HR.out]; rfl, rfl⟩
 ·rw [if_neg hneg] at hp
  have HR : Hid _ := hp
  clear hp hT hR
  go_enter Tryz.func7, Tryz.ntmps7
  go_wp2_with fail
  go_ret
  exact ⟨by rw [HR.out]; rfl, rfl⟩
structure St where
 what : Int
 a : Int
 b : Int
 c : Int
 near : Bool
def St.cs (s : St) : List Value := [.int .i64 s.what, .int .i64 s.a, .int .i64 s.b, .int .i64 s.c, .bool s.near]
def liF (s : St) (N : Nat) : Int × Int × Int := if s.near then (s.a % (2 * (N : Int)), s.b % (2 * (N : Int)), s.c % (2 * (N : Int))) else (s.a, s.b, s.c)
theorem inp_any {w : World} {F : Nat → Prop} {g mo : Nat} {ks : List Kd} (h : Gr w F g mo ks) :
  Calls Tryz.prog 59 #[.pointer (some ⟨g, 0, none⟩)] w (Did w F g mo (inpF mo ks)) := by
 have hl := h.len
 unfold inpF
 by_cases hr : ks.length = mo + 1
 ·rw [if_pos hr]
  exact (inp_full h hr).mono fun e w' hb => Did.of_below h hb
 ·rw [if_neg hr]
  exact (inp_new h (by omega)).mono fun e w' hb => hb
def doF (mo : Nat) (ks : List Kd) (what a b c : Int) : Ans :=
 if what = 0 then inpF mo ks
 else if what = 1 ∨ what = 2 ∨ what = 3 then andF mo ks a b
 else if what = 4 then orF mo ks a b
 else if what = 5 then xorF mo ks a b
 else if what = 6 then muxF mo ks c a b
 else (0, 0, ks)
theorem both_pre {mo : Nat} {ks : List Kd} {k : Kd} : ks <+: (bothF mo ks k).2.2 ∧ (bothF mo ks k).2.2.length ≤ ks.length + 1 := by
 unfold bothF
 split
 ·exact ⟨List.prefix_refl _, by simp⟩
 ·split
  ·exact ⟨List.prefix_refl _, by simp⟩
  ·exact ⟨List.prefix_append _ _, by simp⟩
theorem and_pre {mo : Nat} {ks : List Kd} {a b : Int} : ks <+: (andF mo ks a b).2.2 ∧ (andF mo ks a b).2.2.length ≤ ks.length + 1 := by
 unfold andF
 split
 ·split
  ·exact ⟨List.prefix_refl _, by simp⟩
  ·split
   ·exact ⟨List.prefix_refl _, by simp⟩
   ·exact both_pre
 ·exact ⟨List.prefix_refl _, by simp⟩
structure Pg (a b : List Kd) : Prop where
 pre : a <+: b
 ins : insL b = insL a
theorem Pg.refl (a : List Kd) : Pg a a := ⟨List.prefix_refl _, rfl⟩
theorem Pg.trans {a b c : List Kd} (h : Pg a b) (k : Pg b c) : Pg a c := ⟨h.pre.trans k.pre, k.ins.trans h.ins⟩
theorem Pg.length_le {a b : List Kd} (h : Pg a b) : a.length ≤ b.length := h.pre.length_le
theorem and_ins {mo : Nat} {ks : List Kd} {a b : Int} : insL (andF mo ks a b).2.2 = insL ks := by
 unfold andF
 split
 ·split
  ·rfl
  ·split
   ·rfl
   ·rename_i h0 h1 h2
    unfold bothF
    split
    ·rfl
    ·split
     ·rfl
     ·show insL (ks ++ [_]) = _
      rw [insL_snoc, if_neg, List.append_nil]
      rintro ⟨e, -⟩
      injection e with e1 e2
      rw [Bool.and_eq_true] at h0
      have ha := litB_iff.1 h0.1
      have hb := litB_iff.1 h0.2
      omega
 ·rfl
structure Gz where
 ks : List Kd
 r : Int
def gAnd (mo : Nat) (s : Gz) (a b : Int) : Int × Gz := if s.r ≠ 0 then (0, s) else ((andF mo s.ks a b).1, ⟨(andF mo s.ks a b).2.2, (andF mo s.ks a b).2.1⟩)
def gOr (mo : Nat) (s : Gz) (a b : Int) : Int × Gz := (tu (gAnd mo s (tu a) (tu b)).1, (gAnd mo s (tu a) (tu b)).2)
def ev0 (a : Int) : Int := a - a % 2
def gXor (mo : Nat) (s : Gz) (a b : Int) : Int × Gz :=
 let p := gAnd mo s (ev0 a) (ev0 b)
 let q := gOr mo p.2 (ev0 a) (ev0 b)
 let z := gAnd mo q.2 (tu p.1) q.1
 (if (a + b) % 2 = 1 then tu z.1 else z.1, z.2)
structure Gn (w : World) (F : Nat → Prop) (gs g mo : Nat) (s : Gz) : Prop where
 hd : w.heap[gs]? = some (.cells #[.pointer (some ⟨g, 0, none⟩), .int .i64 s.r] 108 (0, 0))
 gr : Gr w F g mo s.ks
 nf : ¬ F gs
 bd : ∀ k, F k → k < w.heap.size
 rk : s.r = 0 ∨ (s.r = 81 ∧ s.ks.length = mo + 1)
def FG (F : Nat → Prop) (gs : Nat) : Nat → Prop := fun k => F k ∨ k = gs
def GD (w : World) (F : Nat → Prop) (gs g mo : Nat) (p : Int × Gz) : Ending → World → Prop := fun ev w' => ev = .returned (.int .i64 p.1) ∧ ∃ F', Gn w' F' gs g mo p.2 ∧ Ch w w' (FG F gs) (FG F' gs)
theorem Gn.lt {w : World} {F : Nat → Prop} {gs g mo : Nat} {s : Gz} (h : Gn w F gs g mo s) : gs < w.heap.size := (Array.getElem?_eq_some_iff.1 h.hd).1
theorem Gn.below {w w' : World} {F : Nat → Prop} {gs g mo : Nat} {s : Gz} (h : Gn w F gs g mo s) (hb : Below w.heap.size w w') : Gn w' F gs g mo s := ⟨(hb.block gs h.lt).trans h.hd, h.gr.below hb, h.nf, fun k hk => Nat.lt_of_lt_of_le (h.bd k hk) hb.size, h.rk⟩
def OkG (s : Gz) (l : Int) : Prop := 0 ≤ l ∧ l < 2 * (s.ks.length : Int)
theorem OkG.w64 {w : World} {F : Nat → Prop} {gs g mo : Nat} {s : Gz} (h : Gn w F gs g mo s) {l : Int} (hl : OkG s l) : 0 ≤ l ∧ l < 70000 := by
 have := h.gr.len
 obtain ⟨h1, h2⟩ := hl
 omega
theorem OkG.trn {s : Gz} {l : Int} (h : OkG s l) : OkG s (tu l) := by
 obtain ⟨h1, h2⟩ := h
 unfold tu
 constructor <;> omega
theorem OkG.ev {s : Gz} {l : Int} (h : OkG s l) : OkG s (ev0 l) := by
 obtain ⟨h1, h2⟩ := h
 unfold ev0
 constructor <;> omega
theorem OkG.grow {s s' : Gz} {l : Int} (h : OkG s l) (hp : Pg s.ks s'.ks) : OkG s' l := by
 have := hp.length_le
 obtain ⟨h1, h2⟩ := h
 constructor <;> omega
theorem gAnd_pre {mo : Nat} {s : Gz} {a b : Int} : Pg s.ks (gAnd mo s a b).2.ks := by
 unfold gAnd
 split
 ·exact Pg.refl _
 ·exact ⟨and_pre.1, and_ins⟩
theorem gAnd_ok {mo : Nat} {s : Gz} {a b : Int} (hp : 0 < s.ks.length) : OkG (gAnd mo s a b).2 (gAnd mo s a b).1 := by
 unfold gAnd
 split
 ·exact ⟨Int.le_refl _, by show (0 : Int) < 2 * (s.ks.length : Int); omega⟩
 ·have h2 := (and_pre (mo := mo) (ks := s.ks) (a := a) (b := b)).1.length_le
  rcases and_ok (mo := mo) hp a b with ⟨-, h⟩ | ⟨h, -⟩
  ·exact litB_iff.1 h
  ·show 0 ≤ (andF mo s.ks a b).1 ∧ (andF mo s.ks a b).1 < 2 * ((andF mo s.ks a b).2.2.length : Int)
   rw [h]
   omega
theorem Ch.gs {w w' : World} {F F' : Nat → Prop} {gs : Nat} (h : Ch w w' F F') (hn : ¬ F gs) (hl : gs < w.heap.size) : w'.heap[gs]? = w.heap[gs]? ∧ ¬ F' gs := by
 refine ⟨h.block gs hl hn, fun e => ?_⟩
 rcases h.foot gs e with q | q
 ·exact hn q
 ·omega
theorem and_rk {mo : Nat} {s : Gz} {a b : Int} (ha : OkG s a) (hb : OkG s b) : (andF mo s.ks a b).2.1 = 0 ∨ ((andF mo s.ks a b).2.1 = 81 ∧ (andF mo s.ks a b).2.2.length = mo + 1) := by
 unfold andF
 rw [if_pos (by rw [Bool.and_eq_true]; exact ⟨litB_iff.2 ha, litB_iff.2 hb⟩)]
 split
 ·exact Or.inl rfl
 ·split
  ·exact Or.inl rfl
  ·unfold bothF
   split
   ·exact Or.inl rfl
   ·split
    ·rename_i hq; exact Or.inr ⟨rfl, hq⟩
    ·exact Or.inl rfl
theorem gand_any {w : World} {F : Nat → Prop} {gs g mo : Nat} {s : Gz} (h : Gn w F gs g mo s) (a b : Int) (ha : OkG s a) (hb : OkG s b) :
  Calls Tryz.prog 127 #[.pointer (some ⟨gs, 0, none⟩), .int .i64 a, .int .i64 b] w (GD w F gs g mo (gAnd mo s a b)) := by
 have c0 : w.cell? ⟨gs, 0, none⟩ = some (.pointer (some ⟨g, 0, none⟩)) := cell_of h.hd 0 rfl
 have c1 : w.cell? ⟨gs, 1, none⟩ = some (.int .i64 s.r) := cell_of h.hd 1 rfl
 have HA : Hid _ := and_any h.gr a b
 have HRK : Hid _ := and_rk (mo := mo) ha hb
 have H : Hid _ := h
 clear ha hb
 have hlt := h.lt
 obtain ⟨r, hr⟩ : ∃ r, r = s.r := ⟨_, rfl⟩
 rw [← hr] at c1
 have HR : Hid _ := hr
 clear h hr
 by_cases h0 : r = 0
 ·subst h0
  have z0 : ((0 : Int) != 0) = false := rfl
  have HG : Hid (gAnd mo s a b = ((andF mo s.ks a b).1, ⟨(andF mo s.ks a b).2.2, (andF mo s.ks a b).2.1⟩)) := by
   unfold Hid gAnd
   rw [if_neg (fun e => e HR.out.symm)]
  obtain ⟨p, hp⟩ : ∃ p, p = gAnd mo s a b := ⟨_, rfl⟩
  rw [← hp] at HG ⊢
  obtain ⟨q, hq⟩ : ∃ q, q = andF mo s.ks a b := ⟨_, rfl⟩
  rw [← hq] at HA HG HRK
  obtain ⟨l, e, ks2⟩ := q
  clear hp hq
  go_enter Tryz.func127, Tryz.ntmps127
  go_wp2_with fail
  refine Calls.mono HA.out ?_
  rintro ev w2 ⟨rfl, F', hG, hC⟩
  obtain ⟨k1, k2⟩ := hC.gs H.out.nf hlt
  have hh := k1.trans H.out.hd
  have d1 : w2.cell? ⟨gs, 1, none⟩ = some (.int .i64 s.r) := cell_of hh 1 rfl
  have f1 : w2.frozen? ⟨gs, 1, none⟩ = false := by simp [World.frozen?, hh]
  have hl2 : gs < w2.heap.size := Nat.lt_of_lt_of_le hlt hC.size
  have HF : Hid (∀ w3 : World, w3 = w2.setCell ⟨gs, 1, none⟩ (.int .i64 e) → ∃ F', Gn w3 F' gs g mo p.2 ∧ Ch w w3 (FG F gs) (FG F' gs)) := fun w3 h3 => by
   rw [h3, HG.out]
   refine ⟨F', ⟨?_, ?_, k2, fun k hk => ?_, HRK.out⟩, ⟨hC.os, hC.tape, hC.output, by simp; exact hC.size, fun k hk hn => ?_, fun k hk => ?_⟩⟩
   ·exact heap_setCell_same w2 gs 1 _ _ _ hh
   ·exact hG.kept (fun k _ hf => heap_setCell_other _ _ _ _ (show k ≠ gs from fun e => k2 (by rw [← e]; exact hf)))
   ·rw [World.size_setCell]
    rcases hC.foot k hk with q | q
    ·have := H.out.bd k q
     have := hC.size
     omega
    ·exact q.2
   ·rw [heap_setCell_other _ _ _ _ (show k ≠ gs from fun e => hn (Or.inr e))]
    exact hC.block k hk (fun e => hn (Or.inl e))
   ·rcases hk with hk | hk
    ·rcases hC.foot k hk with q | q
     ·exact Or.inl (Or.inl q)
     ·exact Or.inr (by simpa using q)
    ·exact Or.inl (Or.inr hk)
  clear hG hC k1 hh
  go_wp2_with fail
  go_ret
  exact ⟨by rw [HG.out]; rfl, HF.out _ rfl⟩
 ·have z0 : (r != 0) = true := by simp [h0]
  have HG : Hid (gAnd mo s a b = (0, s)) := by
   unfold Hid gAnd
   rw [if_pos (fun e => h0 (HR.out.trans e))]
  obtain ⟨p, hp⟩ : ∃ p, p = gAnd mo s a b := ⟨_, rfl⟩
  rw [← hp] at HG ⊢
  clear hp
  go_enter Tryz.func127, Tryz.ntmps127
  go_wp2_with fail
  go_ret
  refine ⟨by rw [HG.out]; rfl, F, ?_, Ch.refl _ _⟩
  rw [HG.out]; exact H.out
theorem bturn_any {a : Int} (h1 : -9223372036854775808 ≤ a) (h2 : a ≤ 9223372036854775807) (w : World) :
  Calls Tryz.prog 130 #[.int .i64 a] w fun e w' => e = .returned (.int .i64 (tu a)) ∧ w' = w := by
 have H : Hid _ := xor_int h1 h2
 go_enter Tryz.func130, Tryz.ntmps130
 go_wp2_with fail
 go_ret
 exact ⟨congrArg (fun x => Ending.returned (.int .i64 x)) (H.out.symm ▸ (bits_xor a 1)), rfl⟩
theorem gor_any {w : World} {F : Nat → Prop} {gs g mo : Nat} {s : Gz} (h : Gn w F gs g mo s) {a b : Int} (ha : OkG s a) (hb : OkG s b) :
  Calls Tryz.prog 128 #[.pointer (some ⟨gs, 0, none⟩), .int .i64 a, .int .i64 b] w (GD w F gs g mo (gOr mo s a b)) := by
 have wa := OkG.w64 h ha
 have wb := OkG.w64 h hb
 have HTA : Hid (∀ wx, Calls Tryz.prog 130 #[.int .i64 a] wx fun e w' => e = .returned (.int .i64 (tu a)) ∧ w' = wx) := fun wx => bturn_any (by omega) (by omega) wx
 have HTB : Hid (∀ wx, Calls Tryz.prog 130 #[.int .i64 b] wx fun e w' => e = .returned (.int .i64 (tu b)) ∧ w' = wx) := fun wx => bturn_any (by omega) (by omega) wx
 have HA : Hid _ := gand_any h (tu a) (tu b) ha.trn hb.trn
 have hok := gAnd_ok (mo := mo) (a := tu a) (b := tu b) h.gr.inv.pos
 have HP : Hid (gOr mo s a b = (tu (gAnd mo s (tu a) (tu b)).1, (gAnd mo s (tu a) (tu b)).2)) := rfl
 obtain ⟨p, hp⟩ : ∃ p, p = gAnd mo s (tu a) (tu b) := ⟨_, rfl⟩
 obtain ⟨q, hq⟩ : ∃ q, q = gOr mo s a b := ⟨_, rfl⟩
 rw [← hp] at HA HP hok
 rw [← hq] at HP ⊢
 have HOK : Hid _ := hok
 obtain ⟨ta, hta⟩ : ∃ t, t = tu a := ⟨_, rfl⟩
 obtain ⟨tb, htb⟩ : ∃ t, t = tu b := ⟨_, rfl⟩
 rw [← hta] at HTA HA
 rw [← htb] at HTB HA
 clear h hok hp hq ha hb wa wb hta htb
 go_enter Tryz.func128, Tryz.ntmps128
 go_wp2_with fail
 refine (HTA.out _).mono ?_
 rintro ev wz ⟨rfl, hz⟩
 rw [hz]
 clear hz wz
 go_wp2_with fail
 refine (HTB.out _).mono ?_
 rintro ev wz ⟨rfl, hz⟩
 rw [hz]
 clear hz wz
 go_wp2_with fail
 refine Calls.mono HA.out ?_
 rintro ev w2 ⟨rfl, F', hG, hC⟩
 have hw := OkG.w64 hG HOK.out
 have HT : Hid (∀ wx, Calls Tryz.prog 130 #[.int .i64 p.1] wx fun e w' => e = .returned (.int .i64 (tu p.1)) ∧ w' = wx) := fun wx => bturn_any (by omega) (by omega) wx
 have HF : Hid (∃ F', Gn w2 F' gs g mo q.2 ∧ Ch w w2 (FG F gs) (FG F' gs)) := ⟨F', by rw [HP.out]; exact hG, hC⟩
 clear hG hC hw
 go_wp2_with fail
 refine (HT.out _).mono ?_
 rintro ev wz ⟨rfl, hz⟩
 rw [hz]
 clear hz wz
 go_wp2_with fail
 go_ret
 exact ⟨by rw [HP.out]; rfl, HF.out⟩
end Go.Proofs.YtcahhahbcijkiaaGreat.Ag
