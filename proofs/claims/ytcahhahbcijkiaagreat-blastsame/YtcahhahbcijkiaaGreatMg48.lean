import Derived.Test.YtcahhahbcijkiaaGreatMg4
import Derived.Test.YtcahhahbcijkiaaGreatMg46
namespace Go.Proofs.YtcahhahbcijkiaaGreat
set_option maxHeartbeats 12800000
set_option maxRecDepth 100000
open Go.RowKit
set_option linter.unusedSimpArgs false
set_option linter.unusedVariables false
theorem bitwise_or {W n m : Nat} {WW lo hi WW' lo' hi' : Int} (hw : Wd WW lo hi W n) (hw' : Wd WW' lo' hi' W m) (w : World) :
  Rt 193 #[.int .i64 13, .agg #[.int .i64 WW, .int .u64 lo, .int .u64 hi], .agg #[.int .i64 WW', .int .u64 lo', .int .u64 hi']] w (.agg #[.int .i64 W, .int .u64 (LO (n ||| m)), .int .u64 (HI (n ||| m))]) := by
 have hbig := hw.big
 have hbig' := hw'.big
 obtain ⟨h1, h2, hn, rfl, rfl, rfl⟩ := hw
 obtain ⟨-, -, hn', rfl, rfl, rfl⟩ := hw'
 have hlt : n ||| m < 2 ^ W := Nat.or_lt_two_pow hn hn'
 go_enter Tryz.func193, Tryz.ntmps193
 go_wp2_with fail
 refine (cut_any (m := n ||| m) (r := n ||| m) h1 h2 (Nat.lt_of_lt_of_le hlt (pow_le_128 h2)) (Nat.mod_eq_of_lt hlt) rfl (lo_or n m) (hi_or hbig hbig') _).mono ?_
 rintro e w1 ⟨rfl, hb1⟩
 have hb1' := below_step (w := w) (by go_grown) hb1
 have hs1 := hb1'.size
 have hz1_0 : w.heap.size < w1.heap.size := by have := hb1.size; (try simp at this); omega
 have hz1_1 : w.heap.size + 1 < w1.heap.size := by have := hb1.size; (try simp at this); omega
 have hz1_2 : w.heap.size + 1 + 1 < w1.heap.size := by have := hb1.size; (try simp at this); omega
 have hz1_3 : w.heap.size + 1 + 1 + 1 < w1.heap.size := by have := hb1.size; (try simp at this); omega
 obtain ⟨hc1, hf1⟩ := bcell hb1
 go_wp2_with fail
 refine bodyPost_ret (v := .agg #[.int .i64 W, .int .u64 (LO (n ||| m)), .int .u64 (HI (n ||| m))]) (by simp [results, Tryz.results193, go_sem, *]) rfl ?_
 exact ⟨rfl, by go_grown⟩
theorem withSignOf_any {W n m : Nat} {WW lo hi WW' lo' hi' : Int} (hw : Wd WW lo hi W n) (hw' : Wd WW' lo' hi' W m) (w : World) :
  Rt 208 #[.agg #[.int .i64 WW, .int .u64 lo, .int .u64 hi], .agg #[.int .i64 WW', .int .u64 lo', .int .u64 hi']] w (.agg #[.int .i64 W, .int .u64 (LO (wsign W n m)), .int .u64 (HI (wsign W n m))]) := by
 obtain ⟨h1, h2, hn, rfl, rfl, rfl⟩ := hw
 obtain ⟨-, -, hn', rfl, rfl, rfl⟩ := hw'
 cases hs : n.testBit (W - 1)
 ·have e : wsign W n m = m := by simp [wsign, hs]
  rw [e]
  clear e
  go_enter Tryz.func208, Tryz.ntmps208
  go_wp2_with fail
  refine (isBelowZero_any (Wd.mk' h1 h2 hn) _).mono ?_
  rintro e w1 ⟨rfl, hb1⟩
  have hb1' := below_step (w := w) (by go_grown) hb1
  have hs1 := hb1'.size
  have hz1_0 : w.heap.size < w1.heap.size := by have := hb1.size; (try simp at this); omega
  have hz1_1 : w.heap.size + 1 < w1.heap.size := by have := hb1.size; (try simp at this); omega
  have hz1_2 : w.heap.size + 1 + 1 < w1.heap.size := by have := hb1.size; (try simp at this); omega
  obtain ⟨hc1, hf1⟩ := bcell hb1
  go_wp2_with fail
  refine bodyPost_ret (v := .agg #[.int .i64 W, .int .u64 (LO (m)), .int .u64 (HI (m))]) (by simp [results, Tryz.results208, go_sem, *]) rfl ?_
  exact ⟨rfl, by go_grown⟩
 ·have e : wsign W n m = neg W m := by simp [wsign, hs]
  rw [e]
  clear e
  go_enter Tryz.func208, Tryz.ntmps208
  go_wp2_with fail
  refine (isBelowZero_any (Wd.mk' h1 h2 hn) _).mono ?_
  rintro e w1 ⟨rfl, hb1⟩
  have hb1' := below_step (w := w) (by go_grown) hb1
  have hs1 := hb1'.size
  have hz1_0 : w.heap.size < w1.heap.size := by have := hb1.size; (try simp at this); omega
  have hz1_1 : w.heap.size + 1 < w1.heap.size := by have := hb1.size; (try simp at this); omega
  have hz1_2 : w.heap.size + 1 + 1 < w1.heap.size := by have := hb1.size; (try simp at this); omega
  obtain ⟨hc1, hf1⟩ := bcell hb1
  go_wp2_with fail
  refine (negate_any (Wd.mk' h1 h2 hn') _).mono ?_
  rintro e w2 ⟨rfl, hb2⟩
  have hb2' := below_step (w := w) (by go_grown) hb2
  have hs2 := hb2'.size
  have hz2_0 : w.heap.size < w2.heap.size := by have := hb2.size; (try simp at this); omega
  have hz2_1 : w.heap.size + 1 < w2.heap.size := by have := hb2.size; (try simp at this); omega
  have hz2_2 : w.heap.size + 1 + 1 < w2.heap.size := by have := hb2.size; (try simp at this); omega
  obtain ⟨hc2, hf2⟩ := bcell hb2
  go_wp2_with fail
  refine bodyPost_ret (v := .agg #[.int .i64 W, .int .u64 (LO (neg W m)), .int .u64 (HI (neg W m))]) (by simp [results, Tryz.results208, go_sem, *]) rfl ?_
  exact ⟨rfl, by go_grown⟩
theorem size_any {W n : Nat} {WW lo hi : Int} (hw : Wd WW lo hi W n) (w : World) :
  Rt 207 #[.agg #[.int .i64 WW, .int .u64 lo, .int .u64 hi]] w (.agg #[.int .i64 W, .int .u64 (LO (wsign W n n)), .int .u64 (HI (wsign W n n))]) := by
 obtain ⟨h1, h2, hn, rfl, rfl, rfl⟩ := hw
 go_enter Tryz.func207, Tryz.ntmps207
 go_wp2_with fail
 refine (withSignOf_any (Wd.mk' h1 h2 hn) (Wd.mk' h1 h2 hn) _).mono ?_
 rintro e w1 ⟨rfl, hb1⟩
 have hb1' := below_step (w := w) (by go_grown) hb1
 have hs1 := hb1'.size
 have hz1_0 : w.heap.size < w1.heap.size := by have := hb1.size; (try simp at this); omega
 have hz1_1 : w.heap.size + 1 < w1.heap.size := by have := hb1.size; (try simp at this); omega
 obtain ⟨hc1, hf1⟩ := bcell hb1
 go_wp2_with fail
 refine bodyPost_ret (v := .agg #[.int .i64 W, .int .u64 (LO (wsign W n n)), .int .u64 (HI (wsign W n n))]) (by simp [results, Tryz.results207, go_sem, *]) rfl ?_
 exact ⟨rfl, by go_grown⟩
theorem rotate_left {W n k : Nat} {WW lo hi kk : Int} (hw : Wd WW lo hi W n) (hk : kk = k) (hk2 : k < 2 ^ 63) (w : World) :
  Rt 170 #[.agg #[.int .i64 WW, .int .u64 lo, .int .u64 hi], .int .i64 kk, .bool true] w (.tuple #[.agg #[.int .i64 W, .int .u64 (LO (rot W n (k % W))), .int .u64 (HI (rot W n (k % W)))], .int .i64 0]) := by
 obtain ⟨h1, h2, hn, rfl, rfl, rfl⟩ := hw
 subst hk
 have a1 : n * 2 ^ (k % W) % 2 ^ W < 2 ^ W := mod_lt_W _ W
 have a2 : n / 2 ^ (W - (k % W)) < 2 ^ W := Nat.lt_of_le_of_lt (Nat.div_le_self _ _) hn
 have a3 : k % W < W := Nat.mod_lt _ h1
 have a4 : (0 : Int) ≤ k := by omega
 have H1 : Hid ((k : Int) % W = ((k % W : Nat) : Int)) := (Int.natCast_emod k W).symm
 have H2 : Hid (IntKind.i64.wrap ((W : Int) - (k : Int) % W) = ((W - k % W : Nat) : Int)) := wrap_nat (sub_mod_nat h1) (by omega)
 have m0 : (0 : Int) ≤ (k : Int) % W := Int.emod_nonneg _ (by omega)
 have m1 : (k : Int) % W < W := Int.emod_lt_of_pos _ (by omega)
 have a5 : k % W < 2 ^ 62 := by omega
 have a6 : W - (k % W) < 2 ^ 62 := by omega
 go_enter Tryz.func170, Tryz.ntmps170
 go_wp2_with fail
 refine (isWord_any (Wd.mk' h1 h2 hn) _).mono ?_
 rintro e w1 ⟨rfl, hb1⟩
 have hb1' := below_step (w := w) (by go_grown) hb1
 have hs1 := hb1'.size
 have KF1 : W3 w1 w.heap.size W n <| F3 w1 w.heap.size <| S3 w1 (w.heap.size + 1) <| F3 w1 (w.heap.size + 1) <| True := (by refine k3 hb1 ?_ ?_ ?_ <| f3 hb1 ?_ ?_ <| s3 hb1 ?_ ?_ ?_ <| f3 hb1 ?_ ?_ <| trivial <;> (first | (simp [go_sem]; done))); have KF1z0 := zT KF1; have KF1z1 := zT KF1.2.2.2.2
 clear hb1
 go_wp2_with fail
 go_region_held3 (fun x => x.cell? ⟨w.heap.size, 0, none⟩ = some (.int .i64 W) ∧ x.cell? ⟨w.heap.size, 1, none⟩ = some (.int .u64 (LO (n))) ∧ x.cell? ⟨w.heap.size, 2, none⟩ = some (.int .u64 (HI (n))) ∧ x.cell? ⟨w.heap.size + 1, 0, none⟩ = some (cv x ⟨w.heap.size + 1, 0, none⟩) ∧ x.cell? ⟨w.heap.size + 1, 1, none⟩ = some (cv x ⟨w.heap.size + 1, 1, none⟩) ∧ x.cell? ⟨w.heap.size + 1, 2, none⟩ = some (cv x ⟨w.heap.size + 1, 2, none⟩) ∧ (∀ o, x.frozen? ⟨w.heap.size + 1, o, none⟩ = false) ∧ Below w.heap.size w x)
  ((first | (obtain ⟨q0, q1, q2, q3, q4, q5, q6, q7⟩ := ‹_ ∧ _ ∧ _ ∧ _ ∧ _ ∧ _ ∧ _ ∧ _›; with_reducible exact ⟨keep_cell hb q0, keep_cell hb q1, keep_cell hb q2, cv_of (keep_cell hb q3), cv_of (keep_cell hb q4), cv_of (keep_cell hb q5), keep_frozen hb q3 q6, below_step q7 hb⟩) | (obtain ⟨q0, q1, q2, q3, q4, q5, q6, q7⟩ := ‹_ ∧ _ ∧ _ ∧ _ ∧ _ ∧ _ ∧ _ ∧ _›; with_reducible exact ⟨put_cell (by omega) q0, put_cell (by omega) q1, put_cell (by omega) q2, put_own0 q3, put_own1 q4, put_own2 q5, put_frozen q6, put_below q7 (by omega)⟩) | (refine ⟨?_, ?_, ?_, ?_, ?_, ?_, ?_, ?_⟩ <;> first | (simp [go_sem]; done) | (refine cv_some ?_; simp [go_sem]; done) | (simp [go_sem, KF1]; done) | (refine cv_some ?_; simp [go_sem, KF1]; done) | go_grown)))
  ((first | (go_at_call 194; refine (moveUp_any (k := k % W) (Wd.mk' h1 h2 hn) H1.out a5 _).mono ?_; rintro e w1 ⟨rfl, hb⟩) | (go_at_call 152; refine (moveDown_any (k := W - (k % W)) (Wd.mk' h1 h2 hn) H2.out a6 _).mono ?_; rintro e w1 ⟨rfl, hb⟩) | (go_at_call 193; refine (bitwise_or (n := n * 2 ^ (k % W) % 2 ^ W) (m := n / 2 ^ (W - (k % W))) (Wd.mk' h1 h2 a1) (Wd.mk' h1 h2 a2) _).mono ?_; rintro e w1 ⟨rfl, hb⟩)))
 obtain ⟨hq3_0, hq3_1, hq3_2, hR3, hR4, hR5, -, hBq3⟩ := ‹_ ∧ _ ∧ _ ∧ _ ∧ _ ∧ _ ∧ _ ∧ _›
 have HR3 : Hid _ := hR3
 clear hR3
 have HR4 : Hid _ := hR4
 clear hR4
 have HR5 : Hid _ := hR5
 clear hR5
 go_wp2_with fail
 refine bodyPost_ret (ret_bits2 rfl rfl rfl (got0 HR3.out) (got1 HR4.out) (got2 HR5.out)) rfl ?_
 exact ⟨rfl, by go_grown⟩
theorem bit_any {W n i : Nat} {WW lo hi ii : Int} (hw : Wd WW lo hi W n) (hi1 : ii = i) (hiW : i < W) (w : World) :
  Rt 97 #[.agg #[.int .i64 WW, .int .u64 lo, .int .u64 hi], .int .i64 ii] w (.tuple #[.bool (n.testBit i), .int .i64 0]) := by
 obtain ⟨h1, h2, hn, rfl, rfl, rfl⟩ := hw
 subst hi1
 go_enter Tryz.func97, Tryz.ntmps97
 go_wp2_with fail
 refine (isWord_any (Wd.mk' h1 h2 hn) _).mono ?_
 rintro e w1 ⟨rfl, hb1⟩
 have hb1' := below_step (w := w) (by go_grown) hb1
 have hs1 := hb1'.size
 have KF1 : W3 w1 w.heap.size W n <| F3 w1 w.heap.size <| True := (by refine k3 hb1 ?_ ?_ ?_ <| f3 hb1 ?_ ?_ <| trivial <;> (first | (simp [go_sem]; done))); have KF1z0 := zT KF1
 clear hb1
 go_wp2_with fail
 refine (bitAt_any (Wd.mk' h1 h2 hn) rfl (by omega) _).mono ?_
 rintro e w2 ⟨rfl, hb2⟩
 have hb2' := below_step (w := w) (by go_grown) hb2
 have hs2 := hb2'.size
 have KF2 : W3 w2 w.heap.size W n <| F3 w2 w.heap.size <| True := (by refine k3 hb2 ?_ ?_ ?_ <| f3 hb2 ?_ ?_ <| trivial <;> (first | (simp [go_sem]; done) | (simp [go_sem, KF1]; done) | (simp [go_sem, KF1, World.cell?_alloc_some, frozen?_alloc_cells]; done))); have KF2z0 := zT KF2
 clear hb2 KF1
 go_wp2_with fail
 go_ret2
 exact ⟨rfl, by go_grown⟩
structure Nk (ns : List Nd) : Prop where
 nd : ∀ (i : Nat) n, ns[i]? = some n → ∃ m, n = m.wi n.s ∧ srtOf (ns.take i) m = (n.s, 0)
 ok : ∀ n ∈ ns, Ok n
 p : ∀ n ∈ ns, n.p ≤ 24
 nm : ∀ n ∈ ns, n.nm.size ≤ 60
 so : ∀ n ∈ ns, n.s ≤ 128
theorem sAt_eq {ns : List Nd} {i : Nat} {a : Int} (h1 : 1 ≤ a) (h2 : a ≤ (i : Int)) (hi : i ≤ ns.length) : sAt (ns.take i) a = (nAt ns a).s := by
 unfold sAt nAt
 rw [List.getElem?_take_of_lt (by omega), List.getElem?_eq_getElem (by omega)]; rfl
theorem hasB_iff {N : Nat} {i : Int} (h : hasB N i = true) : 1 ≤ i ∧ i ≤ (N : Int) := by simpa [hasB] using h
theorem cir_node {ns : List Nd} (hk : Nk ns) {i : Nat} {n : Nd} (hn : ns[i]? = some n) (h2 : ¬ n.op = 2) {f : Int → Option (List Int)} (hf : ∀ a L, f a = some L → L.length = wl (nAt ns a).s) (hd : ∀ a, (a = n.a ∨ a = n.b ∨ a = n.c) → 1 ≤ a → a ≤ (i : Int) → (f a).isSome = true) :
  ∃ k P Q : Nat, n.op = (k : Int) ∧ n.p = (P : Int) ∧ n.q = (Q : Int) ∧ k ≤ 44 ∧ Ag.cirP (cLit n) ((f n.a).getD []) ((f n.b).getD []) ((f n.c).getD []) P Q (wl n.s) k ∧ 0 ≤ n.s ∧ (k = 1 → rgt n.w n.lo n.hi = true) := by
 obtain ⟨m, hm, hs⟩ := hk.nd i n hn
 have hil : i < ns.length := (List.getElem?_eq_some_iff.1 hn).1
 have hlen : (ns.take i).length = i := by rw [List.length_take]; omega
 have e1 : n.op = m.op := by rw [hm]; rfl
 have e2 : n.a = m.a := by rw [hm]; rfl
 have e3 : n.b = m.b := by rw [hm]; rfl
 have e4 : n.c = m.c := by rw [hm]; rfl
 have e5 : n.p = m.p := by rw [hm]; rfl
 have e6 : n.q = m.q := by rw [hm]; rfl
 have e7 : n.w = m.w := by rw [hm]; rfl
 have e8 : n.lo = m.lo := by rw [hm]; rfl
 have e9 : n.hi = m.hi := by rw [hm]; rfl
 have hnn := List.mem_of_getElem? hn
 have hp24 := hk.p n hnn
 have key : ∀ a, (a = n.a ∨ a = n.b ∨ a = n.c) → 1 ≤ a → a ≤ (i : Int) → ((f a).getD []).length = wl (sAt (ns.take i) a) := fun a ha h1 h2 => by
  obtain ⟨L, hL⟩ := Option.isSome_iff_exists.1 (hd a ha h1 h2)
  rw [hL, sAt_eq h1 h2 (by omega)]
  exact hf a L hL
 unfold srtOf at hs
 rw [hlen] at hs
 cases hp : prt i m
 ·rw [if_pos hp] at hs; (injection hs with _ hs2; exact absurd hs2 (by decide))
 rw [if_neg (by rw [hp]; simp)] at hs
 unfold prt at hp
 simp only [Bool.and_eq_true, decide_eq_true_eq] at hp
 obtain ⟨⟨⟨⟨⟨p1, p2⟩, p3⟩, p4⟩, p5⟩, p6⟩ := hp
 by_cases ho : m.op = 1
 ·rw [if_pos ho] at hs
  split at hs
  ·next hc =>
   simp only [Bool.and_eq_true, decide_eq_true_eq] at hc
   obtain ⟨⟨⟨c1, c2⟩, c3⟩, c4⟩ := hc
   injection hs with hs1 hs2
   have hw : n.w = n.s := by rw [e7, c2, hs1]
   have c0 := c1
   unfold rgt at c1
   simp only [Bool.and_eq_true, decide_eq_true_eq] at c1
   refine ⟨1, 0, 0, by rw [e1, ho]; rfl, by rw [e5, c3]; rfl, by rw [e6, c4]; rfl, by omega, ?_, by rw [← hw, e7]; exact c1.1.1, fun _ => by rw [e7, e8, e9]; exact c0⟩
   show (cLit n).length = wl n.s
   unfold cLit
   rw [← hw]
   by_cases h0 : n.w = 0
   ·rw [if_pos h0, h0]; rfl
   ·rw [if_neg h0]
    unfold Ag.cnL wl
    rw [List.length_map, List.length_range]
    have := c1.1.1
    rw [← e7] at this
    omega
  ·(injection hs with _ hs2; exact absurd hs2 (by decide))
 ·rw [if_neg ho, if_neg (by rw [← e1]; exact h2)] at hs
  have hr : 3 ≤ m.op ∧ m.op ≤ 44 := by
   unfold ari at p1
   split at p1
   ·omega
   ·rw [e1] at h2; omega
  obtain ⟨k, hkk⟩ : ∃ k : Nat, m.op = (k : Int) := ⟨m.op.toNat, by omega⟩
  have hari : ari (k : Int) = 1 ∨ ari (k : Int) = 2 ∨ ari (k : Int) = 3 := by
   rw [← hkk]; unfold ari
   split
   ·omega
   ·split
    ·omega
    ·split
     ·exact Or.inl rfl
     ·split
      ·exact Or.inr (Or.inr rfl)
      ·exact Or.inr (Or.inl rfl)
  rw [hkk] at hs p2 p3 p4
  unfold oss at hs
  rw [hkk] at hs
  unfold opB at p2 p3 p4
  rcases hari with ha | ha | ha
  ·rw [ha] at hs p2
   rw [if_pos (by decide)] at p2
   have q2 := hasB_iff p2
   obtain ⟨P, Q, g1, g2, g3, g4⟩ := cir_one (K := cLit n) (A := (f n.a).getD []) (B := (f n.b).getD []) (C := (f n.c).getD []) (x := sAt (ns.take i) m.a) hs ha (by rw [← e5]; exact hp24) (by rw [← e2]; exact key n.a (Or.inl rfl) (by rw [e2]; exact q2.1) (by rw [e2]; exact q2.2))
   exact ⟨k, P, Q, by rw [e1, hkk], by rw [e5, g1], by rw [e6, g2], by omega, g3, g4, fun e => by omega⟩
  ·rw [ha] at hs p2 p3
   rw [if_pos (by decide)] at p2 p3
   have q2 := hasB_iff p2
   have q3 := hasB_iff p3
   obtain ⟨P, Q, g1, g2, g3, g4⟩ := cir_two (K := cLit n) (A := (f n.a).getD []) (B := (f n.b).getD []) (C := (f n.c).getD []) (x := sAt (ns.take i) m.a) (y := sAt (ns.take i) m.b) hs ha (by rw [← e2]; exact key n.a (Or.inl rfl) (by rw [e2]; exact q2.1) (by rw [e2]; exact q2.2)) (by rw [← e3]; exact key n.b (Or.inr (Or.inl rfl)) (by rw [e3]; exact q3.1) (by rw [e3]; exact q3.2))
   exact ⟨k, P, Q, by rw [e1, hkk], by rw [e5, g1], by rw [e6, g2], by omega, g3, g4, fun e => by omega⟩
  ·rw [ha] at hs p2 p3 p4
   rw [if_pos (by decide)] at p2 p3 p4
   have q2 := hasB_iff p2
   have q3 := hasB_iff p3
   have q4 := hasB_iff p4
   obtain ⟨P, Q, g1, g2, g3, g4⟩ := cir_three (K := cLit n) (A := (f n.a).getD []) (B := (f n.b).getD []) (C := (f n.c).getD []) (x := sAt (ns.take i) m.a) (y := sAt (ns.take i) m.b) (z := sAt (ns.take i) m.c) hs ha (by rw [← e2]; exact key n.a (Or.inl rfl) (by rw [e2]; exact q2.1) (by rw [e2]; exact q2.2)) (by rw [← e3]; exact key n.b (Or.inr (Or.inl rfl)) (by rw [e3]; exact q3.1) (by rw [e3]; exact q3.2)) (by rw [← e4]; exact key n.c (Or.inr (Or.inr rfl)) (by rw [e4]; exact q4.1) (by rw [e4]; exact q4.2))
   exact ⟨k, P, Q, by rw [e1, hkk], by rw [e5, g1], by rw [e6, g2], by omega, g3, g4, fun e => by omega⟩
theorem const_any {n : Nd} (hr : rgt n.w n.lo n.hi = true) (hfi : Fi n) {w : World} {D : Nat → Prop} (hD : ∀ k, D k → k < w.heap.size) :
  Calls Tryz.prog 64 #[.agg #[.int .i64 n.w, .int .u64 n.lo, .int .u64 n.hi]] w fun ev w' => ∃ u', ev = .returned u' ∧ Ag.Wd w' D u' (cLit n) ∧ Below w.heap.size w w' := by
 obtain ⟨l0, l1, h0, h1, -⟩ := hfi
 have hr0 := hr
 unfold rgt at hr
 simp only [Bool.and_eq_true, decide_eq_true_eq] at hr
 obtain ⟨⟨r1, r2⟩, r3⟩ := hr
 unfold cLit
 by_cases hw : n.w = 0
 ·rw [if_pos hw]
  rw [if_pos hw] at r3
  have hb := Ag.constant_bool (b := decide (n.lo = 1)) (w := w) (D := D) (fun wx => by have := bool_any true wx; simpa using this) hD
  have e1 : Ag.b01 (decide (n.lo = 1)) = n.lo ∧ n.hi = 0 := by
   unfold Ag.b01
   simp only [Bool.or_eq_true, Bool.and_eq_true, decide_eq_true_eq] at r3
   rcases r3 with ⟨q1, q2⟩ | ⟨q1, q2⟩
   ·rw [q1]; exact ⟨by decide, q2⟩
   ·rw [q1]; exact ⟨by decide, q2⟩
  rw [e1.1] at hb ⊢
  rw [hw, e1.2]
  exact hb
 ·rw [if_neg hw]
  rw [if_neg hw] at r3
  have r3' : n.lo + 18446744073709551616 * n.hi < 2 ^ n.w.toNat := of_decide_eq_true r3
  obtain ⟨W, hW⟩ : ∃ W : Nat, n.w = (W : Int) := ⟨n.w.toNat, by omega⟩
  obtain ⟨N, hN⟩ : ∃ N : Nat, N = (n.lo + 18446744073709551616 * n.hi).toNat := ⟨_, rfl⟩
  have el : n.lo = LO N := by unfold LO; omega
  have eh : n.hi = HI N := by unfold HI; omega
  have hN2 : N < 2 ^ W := by
   rw [hW, Int.toNat_natCast] at r3'
   have : (N : Int) < ((2 ^ W : Nat) : Int) := by
    rw [Int.natCast_pow]
    have e2 : (N : Int) = n.lo + 18446744073709551616 * n.hi := by omega
    rw [e2]; exact r3'
   omega
  have hwd : Wd n.w n.lo n.hi W N := by rw [hW, el, eh]; exact Wd.mk' (by omega) (by omega) hN2
  rw [← hN, hW, Int.toNat_natCast]
  exact Ag.constant_word (by omega) (by omega) (fun i wx hi => by rw [← hW]; exact bit_any hwd rfl hi wx) hD
theorem cLit_oks {n : Nd} {s : Ag.Gz} (hp : 0 < s.ks.length) : Ag.Oks s (cLit n) := by
 have h01 : ∀ b, 0 ≤ Ag.b01 b ∧ Ag.b01 b ≤ 1 := fun b => by cases b <;> decide
 intro x hx
 have : 0 ≤ x ∧ x ≤ 1 := by
  unfold cLit at hx
  split at hx
  ·rw [List.mem_singleton.1 hx]; exact h01 _
  ·unfold Ag.cnL at hx
   obtain ⟨i, -, rfl⟩ := List.mem_map.1 hx
   exact h01 _
 exact ⟨this.1, by omega⟩
def pr2 (a b : Nat) : Nat := (a + b) * (a + b) + a
theorem pr2_inj {a b c d : Nat} (h : pr2 a b = pr2 c d) : a = c ∧ b = d := by
 unfold pr2 at h
 have key : ∀ s t x y : Nat, x ≤ s → s < t → s * s + x = t * t + y → False := fun s t x y hx hst e => by
  have h1 : (s + 1) * (s + 1) ≤ t * t := Nat.mul_le_mul hst hst
  have h2 : (s + 1) * (s + 1) = s * s + 2 * s + 1 := by
   rw [Nat.add_mul, Nat.mul_add]; omega
  omega
 rcases Nat.lt_trichotomy (a + b) (c + d) with q | q | q
 ·exact (key _ _ a c (by omega) q h).elim
 ·rw [q] at h; omega
 ·exact (key _ _ c a (by omega) q h.symm).elim
noncomputable def un2 (p : Nat) : Nat × Nat := open Classical in if h : ∃ x : Nat × Nat, pr2 x.1 x.2 = p then Classical.choose h else (0, 0)
theorem un2_pr (a b : Nat) : un2 (pr2 a b) = (a, b) := by
 unfold un2
 have h : ∃ x : Nat × Nat, pr2 x.1 x.2 = pr2 a b := ⟨(a, b), rfl⟩
 rw [dif_pos h]
 have := pr2_inj (Classical.choose_spec h)
 exact Prod.ext this.1 this.2
noncomputable def encW (N p : Nat) : Value := if (un2 p).1 = 0 then .slice none N (un2 p).2 else .slice (some ⟨(un2 p).1 - 1, (un2 (un2 p).2).1, none⟩) N (un2 (un2 p).2).2
theorem wd_enc {w : World} {D : Nat → Prop} {u : Value} {L : List Int} (h : Ag.Wd w D u L) (hL : L ≠ [] ∨ u = .slice none 0 0) : ∃ p, u = encW L.length p := by
 obtain ⟨a, c, e, -, -, -, h4⟩ := h.ex
 rcases hL with hL | hL
 ·obtain ⟨r, o, q1, -⟩ := h4.resolve_left hL
  exact ⟨pr2 (r + 1) (pr2 o c), by rw [e, q1]; unfold encW; rw [un2_pr]; simp [un2_pr]⟩
 ·rw [hL] at e
  injection e with e1 e2 e3
  exact ⟨pr2 0 0, by rw [hL, ← e2]; unfold encW; rw [un2_pr]; rfl⟩
theorem kw_look {w : World} {D : Nat → Prop} {mk : Nat} {f : Int → Option (List Int)} (h : Ag.Kw w D mk f) {k : Int} (hk : w64 k) : ∃ u, (Instr.lookup 76 (.map (some mk)) (.int .i64 k) false).run Tryz.prog w = .ok u w ∧ Ag.Wd w D u ((f k).getD []) ∧ (f k = none → u = .slice none 0 0) := by
 obtain ⟨E, ⟨es, cl, hb, rfl, hke⟩, h2, h3⟩ := h.ex
 have hes : ∀ x ∈ es.toList, ∃ l, keyOf Tryz.prog 3 x.key = some l := fun x hx => hke (x.key, x.val) (List.mem_map.2 ⟨x, hx, rfl⟩)
 rcases Ag.intLawK.find w (Ag.intKeyK hk) es.toList hes with ⟨c1, c2⟩ | ⟨j, e0, c1, c2, c3⟩
 ·have hf : f k = none := by
   cases e : f k with
   | none => rfl
   | some L =>
    obtain ⟨u, hu⟩ := h3 k L e
    obtain ⟨x, hx, hxe⟩ := List.mem_map.1 hu
    have : x.key = .int .i64 k := by injection hxe
    exact absurd this (c2 x hx)
  rw [hf]
  exact ⟨.slice none 0 0, by simp [Instr.lookup, run_underlying Ag.kwUnder, MapKept.run_getObj_map hb, Ag.intLawK.check w _ (Ag.intKeyK hk), c1, Ag.zeroWord, Result.andThen], Ag.Wd.nil _ _, fun _ => rfl⟩
 ·obtain ⟨k', L, e1, e2, e3⟩ := h2 (e0.key, e0.val) (List.mem_map.2 ⟨e0, List.mem_of_getElem? c2, rfl⟩)
  have hkk : k' = k := by
   have e1' : e0.key = .int .i64 k' := e1
   rw [c3] at e1'
   simpa using e1'.symm
  subst hkk
  rw [e2]
  exact ⟨e0.val, by simp [Instr.lookup, run_underlying Ag.kwUnder, MapKept.run_getObj_map hb, Ag.intLawK.check w _ (Ag.intKeyK hk), c1, Result.andThen], e3, fun e => by cases e⟩
end Go.Proofs.YtcahhahbcijkiaaGreat
