/- Contracts: the examples' calls, at their own numbers. -/
import Derived.Test.YtnflphhckgeneaaGreatJN
import Derived.Test.YtnflphhckgeneaaGreatMg26
import Derived.Test.YtnflphhckgeneaaGreatMg25
import Derived.Test.YtnflphhckgeneaaGreatMg22
import Derived.Test.YtnflphhckgeneaaGreatMg39
import Derived.Test.YtnflphhckgeneaaGreatU23
import Derived.Test.YtnflphhckgeneaaGreatMg41
import Derived.Test.YtnflphhckgeneaaGreatMg11
namespace Go.Proofs.YtnflphhckgeneaaGreat
set_option maxHeartbeats 12800000
set_option maxRecDepth 100000
open Go.RowKit
set_option linter.unusedSimpArgs false
set_option linter.unusedVariables false

theorem two_signed {W n m N : Nat} {op WW lo hi WW' lo' hi' : Int} (hop : (op = 23 ∧ N = sdiv W n m) ∨ (op = 24 ∧ N = srem W n m) ∨ (op = 25 ∧ N = smod W n m)) (hw : Wd WW lo hi W n) (hw' : Wd WW' lo' hi' W m) (w : World) :
    Rt 87 #[.int .i64 op, .agg #[.int .i64 WW, .int .u64 lo, .int .u64 hi], .agg #[.int .i64 WW', .int .u64 lo', .int .u64 hi']] w (.tuple #[.agg #[.int .i64 W, .int .u64 (LO (N)), .int .u64 (HI (N))], .int .i64 0]) := by
  obtain ⟨h1, h2, hn, rfl, rfl, rfl⟩ := hw
  obtain ⟨-, -, hn', rfl, rfl, rfl⟩ := hw'
  have HC : Hid (∀ wx, Rt 119 #[.int .i64 op, .agg #[.int .i64 W, .int .u64 (LO (n)), .int .u64 (HI (n))], .agg #[.int .i64 W, .int .u64 (LO (m)), .int .u64 (HI (m))]] wx (.agg #[.int .i64 W, .int .u64 (LO (N)), .int .u64 (HI (N))])) := fun wx => signed_any hop (Wd.mk' h1 h2 hn) (Wd.mk' h1 h2 hn') wx
  have hop3 : op = 23 ∨ op = 24 ∨ op = 25 := by rcases hop with h | h | h <;> simp [h.1]
  clear hop
  rcases hop3 with rfl | rfl | rfl
  · go_enter Tryz.func87, Tryz.ntmps87
    go_wp2_with fail
    refine (isWord_any (Wd.mk' h1 h2 hn) _).mono ?_
    rintro e w1 ⟨rfl, hb1⟩
    have hb1' := below_step (w := w) (by go_grown) hb1
    have hs1 := hb1'.size
    have KF1 : W3 w1 w.heap.size W n <| F3 w1 w.heap.size <| W3 w1 (w.heap.size + 1) W m <| F3 w1 (w.heap.size + 1) <| S3 w1 (w.heap.size + 1 + 1) <| F3 w1 (w.heap.size + 1 + 1) <| True := (by refine k3 hb1 ?_ ?_ ?_ <| f3 hb1 ?_ ?_ <| k3 hb1 ?_ ?_ ?_ <| f3 hb1 ?_ ?_ <| s3 hb1 ?_ ?_ ?_ <| f3 hb1 ?_ ?_ <| trivial <;> (first | (simp [go_sem]; done))); have KF1z0 := zT KF1; have KF1z1 := zT KF1.2.2.2.2; have KF1z2 := zT KF1.2.2.2.2.2.2.2.2
    clear hb1
    go_wp2_with fail
    refine (isWord_any (Wd.mk' h1 h2 hn') _).mono ?_
    rintro e w2 ⟨rfl, hb2⟩
    have hb2' := below_step (w := w) (by go_grown) hb2
    have hs2 := hb2'.size
    have KF2 : W3 w2 w.heap.size W n <| F3 w2 w.heap.size <| W3 w2 (w.heap.size + 1) W m <| F3 w2 (w.heap.size + 1) <| S3 w2 (w.heap.size + 1 + 1) <| F3 w2 (w.heap.size + 1 + 1) <| True := (by refine k3 hb2 ?_ ?_ ?_ <| f3 hb2 ?_ ?_ <| k3 hb2 ?_ ?_ ?_ <| f3 hb2 ?_ ?_ <| s3 hb2 ?_ ?_ ?_ <| f3 hb2 ?_ ?_ <| trivial <;> (first | (simp [go_sem]; done) | (simp [go_sem, KF1]; done) | (simp [go_sem, KF1, World.cell?_alloc_some, frozen?_alloc_cells]; done))); have KF2z0 := zT KF2; have KF2z1 := zT KF2.2.2.2.2; have KF2z2 := zT KF2.2.2.2.2.2.2.2.2
    clear hb2 KF1
    go_wp2_with fail
    refine (HC.out _).mono ?_
    rintro e w3 ⟨rfl, hb3⟩
    have hb3' := below_step (w := w) (by go_grown) hb3
    have hs3 := hb3'.size
    have KF3 : W3 w3 w.heap.size W n <| F3 w3 w.heap.size <| W3 w3 (w.heap.size + 1) W m <| F3 w3 (w.heap.size + 1) <| S3 w3 (w.heap.size + 1 + 1) <| F3 w3 (w.heap.size + 1 + 1) <| True := (by refine k3 hb3 ?_ ?_ ?_ <| f3 hb3 ?_ ?_ <| k3 hb3 ?_ ?_ ?_ <| f3 hb3 ?_ ?_ <| s3 hb3 ?_ ?_ ?_ <| f3 hb3 ?_ ?_ <| trivial <;> (first | (simp [go_sem]; done) | (simp [go_sem, KF2]; done) | (simp [go_sem, KF2, World.cell?_alloc_some, frozen?_alloc_cells]; done))); have KF3z0 := zT KF3; have KF3z1 := zT KF3.2.2.2.2; have KF3z2 := zT KF3.2.2.2.2.2.2.2.2
    clear hb3 KF2
    go_wp2_with fail
    refine bodyPost_ret (v := .tuple #[.agg #[.int .i64 W, .int .u64 (LO (N)), .int .u64 (HI (N))], .int .i64 0]) (by simp [results, Tryz.results87, go_sem, *]) rfl ?_
    exact ⟨rfl, by go_grown⟩
  · go_enter Tryz.func87, Tryz.ntmps87
    go_wp2_with fail
    refine (isWord_any (Wd.mk' h1 h2 hn) _).mono ?_
    rintro e w1 ⟨rfl, hb1⟩
    have hb1' := below_step (w := w) (by go_grown) hb1
    have hs1 := hb1'.size
    have KF1 : W3 w1 w.heap.size W n <| F3 w1 w.heap.size <| W3 w1 (w.heap.size + 1) W m <| F3 w1 (w.heap.size + 1) <| S3 w1 (w.heap.size + 1 + 1) <| F3 w1 (w.heap.size + 1 + 1) <| True := (by refine k3 hb1 ?_ ?_ ?_ <| f3 hb1 ?_ ?_ <| k3 hb1 ?_ ?_ ?_ <| f3 hb1 ?_ ?_ <| s3 hb1 ?_ ?_ ?_ <| f3 hb1 ?_ ?_ <| trivial <;> (first | (simp [go_sem]; done))); have KF1z0 := zT KF1; have KF1z1 := zT KF1.2.2.2.2; have KF1z2 := zT KF1.2.2.2.2.2.2.2.2
    clear hb1
    go_wp2_with fail
    refine (isWord_any (Wd.mk' h1 h2 hn') _).mono ?_
    rintro e w2 ⟨rfl, hb2⟩
    have hb2' := below_step (w := w) (by go_grown) hb2
    have hs2 := hb2'.size
    have KF2 : W3 w2 w.heap.size W n <| F3 w2 w.heap.size <| W3 w2 (w.heap.size + 1) W m <| F3 w2 (w.heap.size + 1) <| S3 w2 (w.heap.size + 1 + 1) <| F3 w2 (w.heap.size + 1 + 1) <| True := (by refine k3 hb2 ?_ ?_ ?_ <| f3 hb2 ?_ ?_ <| k3 hb2 ?_ ?_ ?_ <| f3 hb2 ?_ ?_ <| s3 hb2 ?_ ?_ ?_ <| f3 hb2 ?_ ?_ <| trivial <;> (first | (simp [go_sem]; done) | (simp [go_sem, KF1]; done) | (simp [go_sem, KF1, World.cell?_alloc_some, frozen?_alloc_cells]; done))); have KF2z0 := zT KF2; have KF2z1 := zT KF2.2.2.2.2; have KF2z2 := zT KF2.2.2.2.2.2.2.2.2
    clear hb2 KF1
    go_wp2_with fail
    refine (HC.out _).mono ?_
    rintro e w3 ⟨rfl, hb3⟩
    have hb3' := below_step (w := w) (by go_grown) hb3
    have hs3 := hb3'.size
    have KF3 : W3 w3 w.heap.size W n <| F3 w3 w.heap.size <| W3 w3 (w.heap.size + 1) W m <| F3 w3 (w.heap.size + 1) <| S3 w3 (w.heap.size + 1 + 1) <| F3 w3 (w.heap.size + 1 + 1) <| True := (by refine k3 hb3 ?_ ?_ ?_ <| f3 hb3 ?_ ?_ <| k3 hb3 ?_ ?_ ?_ <| f3 hb3 ?_ ?_ <| s3 hb3 ?_ ?_ ?_ <| f3 hb3 ?_ ?_ <| trivial <;> (first | (simp [go_sem]; done) | (simp [go_sem, KF2]; done) | (simp [go_sem, KF2, World.cell?_alloc_some, frozen?_alloc_cells]; done))); have KF3z0 := zT KF3; have KF3z1 := zT KF3.2.2.2.2; have KF3z2 := zT KF3.2.2.2.2.2.2.2.2
    clear hb3 KF2
    go_wp2_with fail
    refine bodyPost_ret (v := .tuple #[.agg #[.int .i64 W, .int .u64 (LO (N)), .int .u64 (HI (N))], .int .i64 0]) (by simp [results, Tryz.results87, go_sem, *]) rfl ?_
    exact ⟨rfl, by go_grown⟩
  · go_enter Tryz.func87, Tryz.ntmps87
    go_wp2_with fail
    refine (isWord_any (Wd.mk' h1 h2 hn) _).mono ?_
    rintro e w1 ⟨rfl, hb1⟩
    have hb1' := below_step (w := w) (by go_grown) hb1
    have hs1 := hb1'.size
    have KF1 : W3 w1 w.heap.size W n <| F3 w1 w.heap.size <| W3 w1 (w.heap.size + 1) W m <| F3 w1 (w.heap.size + 1) <| S3 w1 (w.heap.size + 1 + 1) <| F3 w1 (w.heap.size + 1 + 1) <| True := (by refine k3 hb1 ?_ ?_ ?_ <| f3 hb1 ?_ ?_ <| k3 hb1 ?_ ?_ ?_ <| f3 hb1 ?_ ?_ <| s3 hb1 ?_ ?_ ?_ <| f3 hb1 ?_ ?_ <| trivial <;> (first | (simp [go_sem]; done))); have KF1z0 := zT KF1; have KF1z1 := zT KF1.2.2.2.2; have KF1z2 := zT KF1.2.2.2.2.2.2.2.2
    clear hb1
    go_wp2_with fail
    refine (isWord_any (Wd.mk' h1 h2 hn') _).mono ?_
    rintro e w2 ⟨rfl, hb2⟩
    have hb2' := below_step (w := w) (by go_grown) hb2
    have hs2 := hb2'.size
    have KF2 : W3 w2 w.heap.size W n <| F3 w2 w.heap.size <| W3 w2 (w.heap.size + 1) W m <| F3 w2 (w.heap.size + 1) <| S3 w2 (w.heap.size + 1 + 1) <| F3 w2 (w.heap.size + 1 + 1) <| True := (by refine k3 hb2 ?_ ?_ ?_ <| f3 hb2 ?_ ?_ <| k3 hb2 ?_ ?_ ?_ <| f3 hb2 ?_ ?_ <| s3 hb2 ?_ ?_ ?_ <| f3 hb2 ?_ ?_ <| trivial <;> (first | (simp [go_sem]; done) | (simp [go_sem, KF1]; done) | (simp [go_sem, KF1, World.cell?_alloc_some, frozen?_alloc_cells]; done))); have KF2z0 := zT KF2; have KF2z1 := zT KF2.2.2.2.2; have KF2z2 := zT KF2.2.2.2.2.2.2.2.2
    clear hb2 KF1
    go_wp2_with fail
    refine (HC.out _).mono ?_
    rintro e w3 ⟨rfl, hb3⟩
    have hb3' := below_step (w := w) (by go_grown) hb3
    have hs3 := hb3'.size
    have KF3 : W3 w3 w.heap.size W n <| F3 w3 w.heap.size <| W3 w3 (w.heap.size + 1) W m <| F3 w3 (w.heap.size + 1) <| S3 w3 (w.heap.size + 1 + 1) <| F3 w3 (w.heap.size + 1 + 1) <| True := (by refine k3 hb3 ?_ ?_ ?_ <| f3 hb3 ?_ ?_ <| k3 hb3 ?_ ?_ ?_ <| f3 hb3 ?_ ?_ <| s3 hb3 ?_ ?_ ?_ <| f3 hb3 ?_ ?_ <| trivial <;> (first | (simp [go_sem]; done) | (simp [go_sem, KF2]; done) | (simp [go_sem, KF2, World.cell?_alloc_some, frozen?_alloc_cells]; done))); have KF3z0 := zT KF3; have KF3z1 := zT KF3.2.2.2.2; have KF3z2 := zT KF3.2.2.2.2.2.2.2.2
    clear hb3 KF2
    go_wp2_with fail
    refine bodyPost_ret (v := .tuple #[.agg #[.int .i64 W, .int .u64 (LO (N)), .int .u64 (HI (N))], .int .i64 0]) (by simp [results, Tryz.results87, go_sem, *]) rfl ?_
    exact ⟨rfl, by go_grown⟩


/-- The sign as a factor. -/
def sg (b : Bool) : Int := if b then -1 else 1
theorem smod_lt {W n m : Nat} (hn : n < 2 ^ W) : smod W n m < 2 ^ W := by
  unfold smod; split
  · exact mod_lt_W _ _
  · exact wsign_lt (urem_lt (wsign_lt hn))
theorem sdiv_lt {W n m : Nat} (hn : n < 2 ^ W) : sdiv W n m < 2 ^ W := by
  unfold sdiv; split
  · exact neg_lt _ _
  · exact udiv_lt (wsign_lt hn)
theorem srem_lt {W n m : Nat} (hn : n < 2 ^ W) : srem W n m < 2 ^ W := wsign_lt (urem_lt (wsign_lt hn))


/-- A word's width and number. -/
theorem word_is {b : Bt} (hk : Bk b) (h : 1 ≤ sof b) : ∃ W n : Nat, 1 ≤ W ∧ W ≤ 128 ∧ n < 2 ^ W ∧ b = ⟨(W : Int), LO n, HI n⟩ ∧ sof b = (W : Int) := by
  have hs : sof b = b.w ∧ rgt b.w b.lo b.hi = true := by
    unfold sof at h ⊢
    split at h
    · rename_i hr; rw [if_pos hr]; exact ⟨rfl, hr⟩
    · omega
  obtain ⟨hs, hr⟩ := hs
  rw [hs] at h
  unfold rgt at hr
  have h0 : ¬ b.w = 0 := by omega
  simp only [h0, if_false, Bool.and_eq_true, decide_eq_true_eq] at hr
  obtain ⟨⟨r1, r2⟩, r3⟩ := hr
  have a1 := hk.l0
  have a2 := hk.l1
  have a3 := hk.h0
  have a4 := hk.h1
  have e2 : ((2 : Int) ^ b.w.toNat) = ((2 ^ b.w.toNat : Nat) : Int) := by simp
  rw [e2] at r3
  refine ⟨b.w.toNat, (b.lo + 18446744073709551616 * b.hi).toNat, by omega, by omega, by omega, ?_, by omega⟩
  have e3 : ((b.w.toNat : Nat) : Int) = b.w := by omega
  have e4 : LO (b.lo + 18446744073709551616 * b.hi).toNat = b.lo := by unfold LO; omega
  have e5 : HI (b.lo + 18446744073709551616 * b.hi).toNat = b.hi := by unfold HI; omega
  rw [e3, e4, e5]
/-- Both answer this, without an error. -/
def Both (f g : Nat) (xs : Array Value) (r : Bt) : Prop := (∀ wx, Calls Tryz.prog f xs wx fun e w' => e = .returned (.tuple #[.agg #[.int .i64 r.w, .int .u64 r.lo, .int .u64 r.hi], .int .i64 0]) ∧ Below wx.heap.size wx w') ∧ (∀ wx, Calls Tryz.prog g xs wx fun e w' => e = .returned (.tuple #[.agg #[.int .i64 r.w, .int .u64 r.lo, .int .u64 r.hi], .int .i64 0]) ∧ Below wx.heap.size wx w')
theorem two_fit {op : Int} {W N N' : Nat} (h1 : 1 ≤ W) (h2 : W ≤ 128) (hn : N < 2 ^ W) (hm : N' < 2 ^ W) (o1 : 12 ≤ op) (o2 : op ≤ 37) : ∃ r, Both 87 59 #[.int .i64 op, .agg #[.int .i64 W, .int .u64 (LO (N)), .int .u64 (HI (N))], .agg #[.int .i64 W, .int .u64 (LO (N')), .int .u64 (HI (N'))]] r := by
  have wa := Wd.mk' h1 h2 hn
  have wb := Wd.mk' h1 h2 hm
  by_cases ho : 12 ≤ op ∧ op ≤ 28
  · obtain ⟨k, rfl⟩ : ∃ k : Nat, op = 12 + (k : Int) := ⟨(op - 12).toNat, by omega⟩
    by_cases hk5 : k ≤ 5
    · refine ⟨⟨_, _, _⟩, fun wx => ?_, fun wx => reftwo_word (N := lowop k W N N') h1 h2 hn hm (lowop_lt hn hm) (fun g g' c c' wy ha hb => rwords_low rfl hk5 ha hb h2 hn hm) wx⟩
      have hk6 : k = 0 ∨ k = 1 ∨ k = 2 ∨ k = 3 ∨ k = 4 ∨ k = 5 := by omega
      rcases hk6 with rfl | rfl | rfl | rfl | rfl | rfl
      · exact two_and wa wb wx
      · exact two_or wa wb wx
      · exact two_xor wa wb wx
      · exact two_nand wa wb wx
      · exact two_nor wa wb wx
      · exact two_xnor wa wb wx
    · have hk6 : k = 6 ∨ k = 7 ∨ k = 8 ∨ k = 9 ∨ k = 10 ∨ k = 11 ∨ k = 12 ∨ k = 13 ∨ k = 14 ∨ k = 15 ∨ k = 16 := by omega
      rcases hk6 with rfl | rfl | rfl | rfl | rfl | rfl | rfl | rfl | rfl | rfl | rfl
      · exact ⟨⟨_, _, _⟩, fun wx => two_add wa wb wx, fun wx => reftwo_word (N := lowop 6 W N N') h1 h2 hn hm (lowop_lt hn hm) (fun g g' c c' wy ha hb => rwords_add ha hb h2) wx⟩
      · exact ⟨⟨_, _, _⟩, fun wx => two_sub wa wb wx, fun wx => reftwo_word (N := lowop 7 W N N') h1 h2 hn hm (lowop_lt hn hm) (fun g g' c c' wy ha hb => rwords_sub ha hb h2 hm) wx⟩
      · exact ⟨⟨_, _, _⟩, fun wx => two_mul wa wb wx, fun wx => reftwo_word (N := lowop 8 W N N') h1 h2 hn hm (lowop_lt hn hm) (fun g g' c c' wy ha hb => rwords_mul ha hb h2 hm) wx⟩
      · exact ⟨⟨_, _, _⟩, fun wx => two_udiv wa wb wx, fun wx => reftwo_word h1 h2 hn hm (udiv_lt hn) (fun g g' c c' wy ha hb => rwords_udiv ha hb h1 h2 hn hm) wx⟩
      · exact ⟨⟨_, _, _⟩, fun wx => two_urem wa wb wx, fun wx => reftwo_word h1 h2 hn hm (urem_lt hn) (fun g g' c c' wy ha hb => rwords_urem ha hb h1 h2 hn hm) wx⟩
      · exact ⟨⟨_, _, _⟩, fun wx => two_signed (Or.inl ⟨rfl, rfl⟩) wa wb wx, fun wx => reftwo_word h1 h2 hn hm (sdiv_lt hn) (fun g g' c c' wy ha hb => rwords_sdiv ha hb h1 h2 hn hm (udiv_lt (wsign_lt hn))) wx⟩
      · exact ⟨⟨_, _, _⟩, fun wx => two_signed (Or.inr (Or.inl ⟨rfl, rfl⟩)) wa wb wx, fun wx => reftwo_word h1 h2 hn hm (srem_lt hn) (fun g g' c c' wy ha hb => rwords_srem ha hb h1 h2 hn hm (urem_lt (wsign_lt hn))) wx⟩
      · exact ⟨⟨_, _, _⟩, fun wx => two_signed (Or.inr (Or.inr ⟨rfl, rfl⟩)) wa wb wx, fun wx => reftwo_word h1 h2 hn hm (smod_lt hn) (fun g g' c c' wy ha hb => rwords_smod ha hb h1 h2 hn hm) wx⟩
      · exact ⟨⟨_, _, _⟩, fun wx => two_shl wa wb wx, fun wx => reftwo_word (N := sh 0 W N (dist N' W)) h1 h2 hn hm (sh_lt hn) (fun g g' c c' wy ha hb => rwords_shl ha hb h2 hm) wx⟩
      · exact ⟨⟨_, _, _⟩, fun wx => two_lshr wa wb wx, fun wx => reftwo_word (N := sh 1 W N (dist N' W)) h1 h2 hn hm (sh_lt hn) (fun g g' c c' wy ha hb => rwords_lshr ha hb h2 hn hm) wx⟩
      · refine ⟨⟨_, _, _⟩, fun wx => ?_, fun wx => reftwo_word (N := sh 2 W N (dist N' W)) h1 h2 hn hm (sh_lt hn) (fun g g' c c' wy ha hb => rwords_ashr ha hb h1 h2 hn hm) wx⟩
        cases hs : N.testBit (W - 1)
        · have e : sh 2 W N (dist N' W) = N / 2 ^ dist N' W := by simp [sh, hs]
          rw [e]; exact two_ashr0 wa wb hs wx
        · have e : sh 2 W N (dist N' W) = 2 ^ W - 1 - (2 ^ W - 1 - N) / 2 ^ dist N' W := by simp [sh, hs]
          rw [e]; exact two_ashr1 wa wb hs wx
  · by_cases hc : 29 ≤ op ∧ op ≤ 36
    · obtain ⟨k, rfl⟩ : ∃ k : Nat, op = 29 + (k : Int) := ⟨(op - 29).toNat, by omega⟩
      exact ⟨⟨_, _, _⟩, fun wx => two_cmp rfl (by omega) wa wb wx, fun wx => reftwo_cmp rfl (by omega) h1 h2 hn hm wx⟩
    · obtain rfl : op = 37 := by omega
      exact ⟨⟨_, _, _⟩, fun wx => two_comp rfl wa wb wx, fun wx => reftwo_comp rfl h1 h2 hn hm wx⟩
theorem one_fit10 {W N : Nat} (h1 : 1 ≤ W) (h2 : W ≤ 128) (hn : N < 2 ^ W) : ∃ r, Both 75 53 #[.int .i64 10, .agg #[.int .i64 W, .int .u64 (LO (N)), .int .u64 (HI (N))]] r :=
  ⟨⟨_, _, _⟩, fun wx => one_not (Wd.mk' h1 h2 hn) wx, fun wx => refone_not h1 h2 hn wx⟩
theorem one_fit11 {W N : Nat} (h1 : 1 ≤ W) (h2 : W ≤ 128) (hn : N < 2 ^ W) : ∃ r, Both 75 53 #[.int .i64 11, .agg #[.int .i64 W, .int .u64 (LO (N)), .int .u64 (HI (N))]] r :=
  ⟨⟨_, _, _⟩, fun wx => one_neg (Wd.mk' h1 h2 hn) wx, fun wx => refone_neg h1 h2 hn wx⟩
theorem concat_fit {W N V N' : Nat} (h1 : 1 ≤ W) (h2 : W ≤ 128) (hn : N < 2 ^ W) (k1 : 1 ≤ V) (k2 : V ≤ 128) (hm : N' < 2 ^ V) (hs : W + V ≤ 128) : ∃ r, Both 77 54 #[.agg #[.int .i64 W, .int .u64 (LO (N)), .int .u64 (HI (N))], .agg #[.int .i64 V, .int .u64 (LO (N')), .int .u64 (HI (N'))]] r :=
  ⟨⟨_, _, _⟩, fun wx => concat_any (Wd.mk' h1 h2 hn) (Wd.mk' k1 k2 hm) hs wx, fun wx => refconcat_any h1 h2 hn k1 k2 hm hs wx⟩
theorem extract_fit {W N : Nat} {i j : Int} (h1 : 1 ≤ W) (h2 : W ≤ 128) (hn : N < 2 ^ W) (hp : i < W ∧ j ≤ i ∧ 0 ≤ j) : ∃ r, Both 79 55 #[.agg #[.int .i64 W, .int .u64 (LO (N)), .int .u64 (HI (N))], .int .i64 i, .int .i64 j] r := by
  obtain ⟨i', rfl⟩ : ∃ i' : Nat, i = i' := ⟨i.toNat, by omega⟩
  obtain ⟨j', rfl⟩ : ∃ j' : Nat, j = j' := ⟨j.toNat, by omega⟩
  exact ⟨⟨_, _, _⟩, fun wx => extract_any (Wd.mk' h1 h2 hn) rfl rfl (by omega) (by omega) wx, fun wx => refextract_any h1 h2 hn (by omega) (by omega) wx⟩
theorem extend_fit {W N : Nat} {i : Int} (c : Bool) (h1 : 1 ≤ W) (h2 : W ≤ 128) (hn : N < 2 ^ W) (hp : 0 ≤ i) (hq : i ≤ 128 - (W : Int)) : ∃ r, Both 81 56 #[.agg #[.int .i64 W, .int .u64 (LO (N)), .int .u64 (HI (N))], .int .i64 i, .bool c] r := by
  obtain ⟨k, rfl⟩ : ∃ k : Nat, i = k := ⟨i.toNat, by omega⟩
  by_cases hs : (c && N.testBit (W - 1)) = true
  · obtain ⟨rfl, ht⟩ : c = true ∧ N.testBit (W - 1) = true := by simpa using hs
    refine ⟨⟨_, _, _⟩, fun wx => extend_sign (Wd.mk' h1 h2 hn) rfl (by omega) ht wx, fun wx => ?_⟩
    have h := refextend_any (f := true) h1 h2 hn (by omega) hs.symm wx (k := k)
    rw [nb_ext1 hn] at h
    exact h
  · have hs' : (c && N.testBit (W - 1)) = false := by simpa using hs
    refine ⟨⟨_, _, _⟩, fun wx => extend_zero (b := c) (Wd.mk' h1 h2 hn) rfl (by omega) (by cases c; exact Or.inl rfl; exact Or.inr (by simpa using hs')) wx, fun wx => ?_⟩
    have h := refextend_any (f := false) h1 h2 hn (by omega) hs'.symm wx (k := k)
    rw [nb_ext0 hn] at h
    exact h
theorem rotate_fit {W N : Nat} {i : Int} (c : Bool) (h1 : 1 ≤ W) (h2 : W ≤ 128) (hn : N < 2 ^ W) (hp : 0 ≤ i) (hi : i < 9223372036854775808) : ∃ r, Both 83 57 #[.agg #[.int .i64 W, .int .u64 (LO (N)), .int .u64 (HI (N))], .int .i64 i, .bool c] r := by
  obtain ⟨k, rfl⟩ : ∃ k : Nat, i = k := ⟨i.toNat, by omega⟩
  cases c
  · exact ⟨⟨_, _, _⟩, fun wx => rotate_right (Wd.mk' h1 h2 hn) rfl (by omega) wx, fun wx => refrotate_u (r := k % W) h1 h2 hn (by omega) hi (by simp) (by simp) wx⟩
  · exact ⟨⟨_, _, _⟩, fun wx => rotate_left (Wd.mk' h1 h2 hn) rfl (by omega) wx, fun wx => refrotate_u (r := k % W) h1 h2 hn (by omega) hi (by simp) (by simp) wx⟩
theorem repeat_fit {W N : Nat} {i : Int} (h1 : 1 ≤ W) (h2 : W ≤ 128) (hn : N < 2 ^ W) (hp : 1 ≤ i) (hq : W * i.toNat ≤ 128) : ∃ r, Both 85 58 #[.agg #[.int .i64 W, .int .u64 (LO (N)), .int .u64 (HI (N))], .int .i64 i] r := by
  obtain ⟨k, rfl⟩ : ∃ k : Nat, i = k := ⟨i.toNat, by omega⟩
  have hk : k ≤ 128 / W := by
    rw [Nat.le_div_iff_mul_le (by omega), Nat.mul_comm]
    simpa using hq
  exact ⟨⟨_, _, _⟩, fun wx => repeat_any (Wd.mk' h1 h2 hn) rfl (by omega) hk wx, fun wx => refrepeat_any h1 h2 hn (by omega) hk wx⟩
end Go.Proofs.YtnflphhckgeneaaGreat
