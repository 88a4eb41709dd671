/- Contracts: the document's repetition, extension, concatenation. -/
import Derived.Deep.AppendLies
import Derived.Test.YtnflphhckgeneaaGreatU4
namespace Go.Proofs.YtnflphhckgeneaaGreat
set_option maxHeartbeats 12800000
set_option maxRecDepth 100000
open Go.RowKit
set_option linter.unusedSimpArgs false
set_option linter.unusedVariables false

theorem word_bs {w : World} {base : Nat} {v : Value} {l : List Bool} (h : Bs w base v l) (hl : 0 < l.length) (hl2 : l.length ≤ 128) :
    Rt 49 #[v] w (.agg #[.int .i64 ((l.length : Nat) : Int), .int .u64 (LO (nb l)), .int .u64 (HI (nb l))]) := by
  rcases h.2 with ⟨-, h0⟩ | ⟨g, cap, cur, rfl, -⟩
  · omega
  · have hlt := nb_lt l
    have hw := word_at (W := l.length) (n := nb l) (g := g) (off := 0) (cap := cap) hl2 (Nat.lt_of_lt_of_le hlt (pow_le_128 hl2)) w (fun j hj => by
      rw [Nat.zero_add, nb_bit]; exact Bs.cell h rfl (getD_get hj)) (Bs.lt h).2
    rw [Nat.mod_eq_of_lt hlt] at hw
    exact hw

theorem keepB_cell {B : Nat} {W w1 : World} (hb : Below B W w1) {a : Addr} {v : Value} (ha : a.block < B) (h : W.cell? a = some v) : w1.cell? a = some v := by
  rw [hb.cell ha]; exact h
theorem keepB_some {B : Nat} {W w1 : World} (hb : Below B W w1) {a : Addr} (ha : a.block < B) (h : (W.cell? a).isSome = true) : w1.cell? a = some (cv w1 a) := by
  refine cv_some ?_; rw [hb.cell ha]; exact h
theorem keepB_frozen {B : Nat} {W w1 : World} (hb : Below B W w1) {r : Nat} (ha : r < B) (h : ∀ o, W.frozen? ⟨r, o, none⟩ = false) : ∀ o, w1.frozen? ⟨r, o, none⟩ = false := fun o => by
  rw [hb.frozen (p := ⟨r, o, none⟩) ha]; exact h o

/-- What an append leaves. -/
theorem app_bs {w w' : World} {base n m : Nat} {v v' : Value} {l k : List Bool} (h : Bs w base v l) (hn : n = l.length) (hm : m = k.length) (ho : w'.ownsRow base 4 1 v' (n + m) (bv l ++ bv k)) (hg : w.grownBy w' v.ownBlock) (hb : base ≤ w.heap.size) :
    Bs w' base v' (l ++ k) ∧ Below base w w' := by
  subst hn hm
  refine ⟨?_, ?_⟩
  · unfold Bs
    rw [bv_app, List.length_append]; exact ho
  · exact (Below.refl base w).grown hg hb (fun q hq => (World.ownsRow.lt h q hq).1)

/-- So many of a word, one above the other. -/
def reps (W n : Nat) : Nat → List Bool
  | 0 => []
  | k + 1 => reps W n k ++ bl W n
theorem reps_len (W n : Nat) : ∀ k, (reps W n k).length = W * k
  | 0 => rfl
  | k + 1 => by rw [reps, List.length_append, reps_len W n k, bl_len, Nat.mul_succ]
theorem rep_turn (W n : Nat) : ∀ k, rep W n k * 2 ^ W + n = rep W n k + 2 ^ (W * k) * n
  | 0 => by simp [rep]
  | k + 1 => by
    have ih := rep_turn W n k
    have e : rep W n (k + 1) = rep W n k * 2 ^ W + n := rfl
    have e2 : 2 ^ (W * (k + 1)) = 2 ^ (W * k) * 2 ^ W := by rw [Nat.mul_succ, Nat.pow_add]
    rw [e2]
    have : rep W n (k + 1) * 2 ^ W = rep W n k * 2 ^ W + 2 ^ (W * k) * n * 2 ^ W := by rw [e, ih, Nat.add_mul]
    rw [this, e, Nat.mul_right_comm]
    omega
theorem nb_reps {W n : Nat} (hn : n < 2 ^ W) : ∀ k, nb (reps W n k) = rep W n k
  | 0 => rfl
  | k + 1 => by
    rw [reps, nb_append, nb_reps hn k, reps_len, nb_bl, Nat.mod_eq_of_lt hn]
    exact (rep_turn W n k).symm

theorem refrepeat_any {W n K : Nat} (h1 : 1 ≤ W) (h2 : W ≤ 128) (hn : n < 2 ^ W) (hk1 : 1 ≤ K) (hk2 : K ≤ 128 / W) (w : World) :
    Rt 58 #[.agg #[.int .i64 W, .int .u64 (LO (n)), .int .u64 (HI (n))], .int .i64 (K : Int)] w (.tuple #[.agg #[.int .i64 ((wk W K : Nat) : Int), .int .u64 (LO (rep W n K)), .int .u64 (HI (rep W n K))], .int .i64 0]) := by
  have hN : n < 2 ^ 128 := Nat.lt_of_lt_of_le hn (pow_le_128 h2)
  have hWk : W * K ≤ 128 := Nat.le_trans (Nat.mul_le_mul_left W hk2) (Nat.mul_div_le 128 W)
  have hkl : K ≤ 128 := Nat.le_trans hk2 (Nat.div_le_self _ _)
  have hq : ¬ ((128 : Int) / (W : Int) < (K : Int)) := by
    rw [show ((128 : Int) / (W : Int)) = ((128 / W : Nat) : Int) from rfl]; omega
  obtain ⟨i0, hi, hz0, hz1, hz2⟩ := info4
  have HI4 : Hid (Tryz.prog.info? 4 = some i0 ∧ i0.zero = some (.bool false) ∧ i0.size = 1 ∧ i0.bytes = 1) := ⟨hi, hz0, hz1, hz2⟩
  clear hi hz0 hz1 hz2
  go_enter Tryz.func58, Tryz.ntmps58
  go_wp2_with fail
  refine (refword_yes h1 h2 hn _).mono ?_
  rintro e w1 ⟨rfl, hb1⟩
  have hb1' := below_step (w := w) (by go_grown) hb1
  have hs1 := hb1'.size
  have KF1 : W3 w1 w.heap.size W n <| F3 w1 w.heap.size <| S3 w1 (w.heap.size + 1) <| F3 w1 (w.heap.size + 1) <| True := (by refine k3 hb1 ?_ ?_ ?_ <| f3 hb1 ?_ ?_ <| s3 hb1 ?_ ?_ ?_ <| f3 hb1 ?_ ?_ <| trivial <;> (first | (simp [go_sem]; done))); have KF1z0 := zT KF1; have KF1z1 := zT KF1.2.2.2.2
  clear hb1
  go_wp2_with fail
  go_loopw [1, 6] (fun c v wr => ∃ k : Nat, k ≤ K ∧ c = .int .i64 ((K - k : Nat) : Int) ∧ (wr.cell? ⟨w.heap.size, 0, none⟩ = some (.int .i64 W) ∧ wr.cell? ⟨w.heap.size, 1, none⟩ = some (.int .u64 (LO n)) ∧ wr.cell? ⟨w.heap.size, 2, none⟩ = some (.int .u64 (HI n))) ∧ (wr.cell? ⟨w.heap.size + 1, 0, none⟩ = some (cv wr ⟨w.heap.size + 1, 0, none⟩) ∧ wr.cell? ⟨w.heap.size + 1, 1, none⟩ = some (cv wr ⟨w.heap.size + 1, 1, none⟩) ∧ wr.cell? ⟨w.heap.size + 1, 2, none⟩ = some (cv wr ⟨w.heap.size + 1, 2, none⟩)) ∧ (∀ o, wr.frozen? ⟨w.heap.size + 1, o, none⟩ = false) ∧ Bs wr (w.heap.size + 2) v (reps W n k) ∧ w.heap.size + 2 ≤ wr.heap.size ∧ Below w.heap.size w wr) (fun c _ _ => (intOf c).toNat)
  case atStart =>
    refine ⟨0, Nat.zero_le _, rfl, ⟨?_, ?_, ?_⟩, ⟨?_, ?_, ?_⟩, ?_, World.ownsRow_nil _ _ _ _, ?_, ?_⟩
    · simp [go_sem, KF1]
    · simp [go_sem, KF1]
    · simp [go_sem, KF1]
    · refine cv_some ?_; rw [KF1.2.2.2.2.1]; rfl
    · refine cv_some ?_; rw [KF1.2.2.2.2.2.1]; rfl
    · refine cv_some ?_; rw [KF1.2.2.2.2.2.2.1]; rfl
    · exact KF1.2.2.2.2.2.2.2.1
    · have := KF1z1; omega
    · go_grown
  case round =>
    obtain ⟨k, hk, rfl, hca, hcr, hfr, hB, hz, hbl⟩ := hrel
    have HB : Hid (Bs wr (w.heap.size + 2) u6 (reps W n k)) := hB
    clear hB KF1 KF1z0 KF1z1
    have HF : Hid _ := hfr
    clear hfr
    by_cases hlt : k < K
    · have hc0 : (0 : Int) < ((K - k : Nat) : Int) := by omega
      have hc1 : 0 < K - k := by omega
      go_wp2_with fail
      refine (bits_own h2 hN rfl rfl rfl _).mono ?_
      rintro e w5 ⟨g, rfl, hB5, hb5⟩
      have hs5 : wr.heap.size ≤ w5.heap.size := hb5.size
      have HB5 : Hid (Bs w5 (w.heap.size + 2) u6 (reps W n k)) := Bs.keep HB.out hb5
      have HG : Hid (∀ j u, (bv (bl W n))[j]? = some u → w5.cell? ((⟨g, 0, none⟩ : Addr).add j) = some u) := World.ownsRow.cells hB5 rfl
      have hca5 : w5.cell? ⟨w.heap.size, 0, none⟩ = some (.int .i64 W) ∧ w5.cell? ⟨w.heap.size, 1, none⟩ = some (.int .u64 (LO n)) ∧ w5.cell? ⟨w.heap.size, 2, none⟩ = some (.int .u64 (HI n)) := ⟨keep_cell hb5 hca.1, keep_cell hb5 hca.2.1, keep_cell hb5 hca.2.2⟩
      have hcr5 : w5.cell? ⟨w.heap.size + 1, 0, none⟩ = some (cv w5 ⟨w.heap.size + 1, 0, none⟩) ∧ w5.cell? ⟨w.heap.size + 1, 1, none⟩ = some (cv w5 ⟨w.heap.size + 1, 1, none⟩) ∧ w5.cell? ⟨w.heap.size + 1, 2, none⟩ = some (cv w5 ⟨w.heap.size + 1, 2, none⟩) := ⟨keep_some hb5 (by rw [hcr.1]; rfl), keep_some hb5 (by rw [hcr.2.1]; rfl), keep_some hb5 (by rw [hcr.2.2]; rfl)⟩
      have HF5 : Hid (∀ o, w5.frozen? ⟨w.heap.size + 1, o, none⟩ = false) := keep_frozen2 hb5 (by rw [hcr.1]; rfl) HF.out
      have hbl5 : Below w.heap.size w w5 := hbl.trans (hb5.mono hbl.size)
      have HLN : Hid (W * k + W ≤ 128) := by
        have h3 : W * (k + 1) ≤ W * K := Nat.mul_le_mul_left W hlt
        rw [Nat.mul_succ] at h3; unfold Hid; omega
      clear hB5 hb5 HB HF hca hcr hbl
      go_wp2_with (at_builtin; refine wpList_append_own _ rfl (.tmp 24) (.tmp 26) 93 rfl (w.heap.size + 2) 4 i0 (.bool false) 1 1 Tryz.underlying93 HI4.out.1 HI4.out.2.1 HI4.out.2.2.1 HI4.out.2.2.2 rfl (by decide) u6 (W * k) (bv (reps W n k)) rfl (by have h := HB5.out; unfold Bs at h; rw [reps_len] at h; exact h) ⟨g, 0, none⟩ W W (bv (bl W n)) rfl (by simp [bv, bl]) HG.out (bv_one _) (by have := HLN.out; unfold maxLen; omega) (by have := HLN.out; omega) (by omega) ?_; intro v' w6 hown hgrow _)
      obtain ⟨hB6, hb6⟩ := app_bs (k := bl W n) HB5.out (reps_len W n k).symm (bl_len W n).symm hown hgrow (by omega)
      have hs6 : w5.heap.size ≤ w6.heap.size := hgrow.size
      have HB6 : Hid (Bs w6 (w.heap.size + 2) v' (reps W n (k + 1))) := hB6
      clear hown hgrow hB6 HB5 HG
      go_wp2_with fail
      refine ⟨⟨k + 1, by omega, ?_, ⟨keepB_cell hb6 (by simp) hca5.1, keepB_cell hb6 (by simp) hca5.2.1, keepB_cell hb6 (by simp) hca5.2.2⟩, ⟨keepB_some hb6 (by simp) (by rw [hcr5.1]; rfl), keepB_some hb6 (by simp) (by rw [hcr5.2.1]; rfl), keepB_some hb6 (by simp) (by rw [hcr5.2.2]; rfl)⟩, keepB_frozen hb6 (by omega) HF5.out, HB6.out, by omega, hbl5.trans (hb6.mono (by omega))⟩, ?_⟩
      · congr 1; omega
      · simp [intOf]; omega
    · obtain rfl : k = K := by omega
      have hc0 : ((k - k : Nat) : Int) = 0 := by omega
      have HWD := word_bs HB.out (by rw [reps_len]; exact Nat.mul_pos h1 (by omega)) (by rw [reps_len]; exact hWk)
      rw [reps_len, nb_reps hn, show W * k = wk W k from rfl] at HWD
      have HWH : Hid _ := HWD
      have hfr := HF.out
      clear HWD HB HF
      have hbs := hbl.size
      go_wp2_with fail
      refine Calls.mono HWH.out ?_
      rintro e w4 ⟨rfl, hb4⟩
      have hb4' := below_step (w := w) hbl hb4
      have KF4 : w4.cell? ⟨w.heap.size + 1, 0, none⟩ = some (cv w4 ⟨w.heap.size + 1, 0, none⟩) ∧ w4.cell? ⟨w.heap.size + 1, 1, none⟩ = some (cv w4 ⟨w.heap.size + 1, 1, none⟩) ∧ w4.cell? ⟨w.heap.size + 1, 2, none⟩ = some (cv w4 ⟨w.heap.size + 1, 2, none⟩) ∧ (∀ o, w4.frozen? ⟨w.heap.size + 1, o, none⟩ = false) :=
        ⟨keep_some hb4 (by rw [hcr.1]; rfl), keep_some hb4 (by rw [hcr.2.1]; rfl), keep_some hb4 (by rw [hcr.2.2]; rfl), keep_frozen2 hb4 (by rw [hcr.1]; rfl) hfr⟩
      have hs4 := hb4'.size
      clear hb4 hcr hfr hca
      go_wp2_with fail
      refine bodyPost_ret (v := .tuple #[.agg #[.int .i64 ((wk W k : Nat) : Int), .int .u64 (LO (rep W n k)), .int .u64 (HI (rep W n k))], .int .i64 0]) (by simp [results, Tryz.results58, go_sem, *]) rfl ?_
      exact ⟨rfl, by go_grown⟩

theorem refminus_bs {w : World} {base g cap N : Nat} {l : List Bool} {b : Bool} (h : Bs w base (.slice (some ⟨g, 0, none⟩) N cap) l) (hN : N = l.length) (hl : 0 < N) (hl2 : N ≤ 128) (hb : l[N - 1]? = some b) :
    Calls Tryz.prog 98 #[.slice (some ⟨g, 0, none⟩) N cap] w fun e w' => e = .returned (.bool b) ∧ w' = w := by
  have hc : w.cell? ⟨g, N - 1, none⟩ = some (.bool b) := Bs.cell h hN hb
  have h0 : (0 : Int) ≤ (N : Int) - 1 := by omega
  have h1 : (N : Int) - 1 < N := by omega
  have h2 : ((N : Int) - 1).toNat = N - 1 := by omega
  clear h hb hN
  go_enter Tryz.func98, Tryz.ntmps98
  go_wp2
  go_ret
  exact ⟨rfl, rfl⟩

theorem refextend_any {W n k : Nat} {b f : Bool} (h1 : 1 ≤ W) (h2 : W ≤ 128) (hn : n < 2 ^ W) (hV : W + k ≤ 128) (hf : f = (b && n.testBit (W - 1))) (w : World) :
    Rt 56 #[.agg #[.int .i64 W, .int .u64 (LO (n)), .int .u64 (HI (n))], .int .i64 (k : Int), .bool b] w (.tuple #[.agg #[.int .i64 ((W : Int) + k), .int .u64 (LO (nb (bl W n ++ List.replicate k f))), .int .u64 (HI (nb (bl W n ++ List.replicate k f)))], .int .i64 0]) := by
  have hN : n < 2 ^ 128 := Nat.lt_of_lt_of_le hn (pow_le_128 h2)
  have hq : ¬ (128 - (W : Int) < (k : Int)) := by omega
  obtain ⟨i0, hi, hz0, hz1, hz2⟩ := info4
  have HI4 : Hid (Tryz.prog.info? 4 = some i0 ∧ i0.zero = some (.bool false) ∧ i0.size = 1 ∧ i0.bytes = 1) := ⟨hi, hz0, hz1, hz2⟩
  clear hi hz0 hz1 hz2
  cases b
  · obtain rfl : f = false := by rw [hf]; rfl
    clear hf
    go_enter Tryz.func56, Tryz.ntmps56
    go_wp2_with fail
    refine (refword_yes h1 h2 hn _).mono ?_
    rintro e w1 ⟨rfl, hb1⟩
    have hb1' := below_step (w := w) (by go_grown) hb1
    have hs1 := hb1'.size
    have KF1 : W3 w1 w.heap.size W n <| F3 w1 w.heap.size <| S3 w1 (w.heap.size + 1) <| F3 w1 (w.heap.size + 1) <| True := (by refine k3 hb1 ?_ ?_ ?_ <| f3 hb1 ?_ ?_ <| s3 hb1 ?_ ?_ ?_ <| f3 hb1 ?_ ?_ <| trivial <;> (first | (simp [go_sem]; done))); have KF1z0 := zT KF1; have KF1z1 := zT KF1.2.2.2.2
    clear hb1
    go_wp2_with fail
    refine (bits_own h2 hN rfl rfl rfl _).mono ?_
    rintro e w2 ⟨g, rfl, hB, hb2⟩
    have hb2' := below_step (w := w) (by go_grown) hb2
    have hs2 := hb2'.size
    have HBs : Hid (Bs w2 (w.heap.size + 2) (.slice (some ⟨g, 0, none⟩) W W) (bl W n)) := Bs.mono hB (by omega); clear hB
    have KF2 : W3 w2 w.heap.size W n <| F3 w2 w.heap.size <| S3 w2 (w.heap.size + 1) <| F3 w2 (w.heap.size + 1) <| True := (by refine k3 hb2 ?_ ?_ ?_ <| f3 hb2 ?_ ?_ <| s3 hb2 ?_ ?_ ?_ <| f3 hb2 ?_ ?_ <| trivial <;> (first | (simp [go_sem]; done) | (simp [go_sem, KF1]; done) | (simp [go_sem, KF1, World.cell?_alloc_some, frozen?_alloc_cells]; done))); have KF2z0 := zT KF2; have KF2z1 := zT KF2.2.2.2.2
    clear hb2 KF1
    go_wp2_with fail
    go_loopw [1, 8] (fun c v wr => ∃ q : Nat, q ≤ k ∧ c = .int .i64 ((k - q : Nat) : Int) ∧ (wr.cell? ⟨w.heap.size + 1, 0, none⟩ = some (cv wr ⟨w.heap.size + 1, 0, none⟩) ∧ wr.cell? ⟨w.heap.size + 1, 1, none⟩ = some (cv wr ⟨w.heap.size + 1, 1, none⟩) ∧ wr.cell? ⟨w.heap.size + 1, 2, none⟩ = some (cv wr ⟨w.heap.size + 1, 2, none⟩)) ∧ (∀ o, wr.frozen? ⟨w.heap.size + 1, o, none⟩ = false) ∧ Bs wr (w.heap.size + 2) v (bl W n ++ List.replicate q false) ∧ w.heap.size + 2 ≤ wr.heap.size ∧ Below w.heap.size w wr) (fun c _ _ => (intOf c).toNat)
    case atStart =>
      refine ⟨0, Nat.zero_le _, rfl, ⟨?_, ?_, ?_⟩, ?_, ?_, ?_, ?_⟩
      · refine cv_some ?_; rw [KF2.2.2.2.2.1]; rfl
      · refine cv_some ?_; rw [KF2.2.2.2.2.2.1]; rfl
      · refine cv_some ?_; rw [KF2.2.2.2.2.2.2.1]; rfl
      · exact KF2.2.2.2.2.2.2.2.1
      · have h := HBs.out; simpa using h
      · have := KF2z1; omega
      · go_grown
    case round =>
      obtain ⟨q, hq, rfl, hcr, hfr, hB, hz, hbl⟩ := hrel
      have HB : Hid (Bs wr (w.heap.size + 2) u8 (bl W n ++ List.replicate q false)) := hB
      clear hB KF2 KF2z0 KF2z1 HBs
      have HF : Hid _ := hfr
      clear hfr
      have HLN : Hid ((bl W n ++ List.replicate q false).length = W + q) := by unfold Hid; simp [bl]
      by_cases hlt : q < k
      · have hc0 : (0 : Int) < ((k - q : Nat) : Int) := by omega
        have hc1 : 0 < k - q := by omega
        go_wp2_with (at_builtin; refine wpList_append_own _ rfl (.tmp 34) (.tmp 36) 93 rfl (w.heap.size + 2) 4 i0 (.bool false) 1 1 Tryz.underlying93 HI4.out.1 HI4.out.2.1 HI4.out.2.2.1 HI4.out.2.2.2 rfl (by decide) u8 (W + q) (bv (bl W n ++ List.replicate q false)) rfl (by have h := Bs.alloc HB.out (.cells #[.bool false] 4); unfold Bs at h; rw [HLN.out] at h; exact h) ⟨wr.heap.size, 0, none⟩ 1 1 [.bool false] rfl rfl (by intro j u hj; match j, hj with | 0, hj => simp at hj; subst hj; simp [Addr.add]) (by intro u hu; simp at hu; subst hu; rfl) (by unfold maxLen; omega) (by omega) (by simp; omega) ?_; intro v' w6 hown hgrow _)
        obtain ⟨hB6, hb6⟩ := app_bs (k := [false]) (Bs.alloc HB.out (.cells #[.bool false] 4)) HLN.out.symm rfl hown hgrow (by simp; omega)
        have hs6 : wr.heap.size + 1 ≤ w6.heap.size := by have := hgrow.size; simpa using this
        have HB6 : Hid (Bs w6 (w.heap.size + 2) v' (bl W n ++ List.replicate (q + 1) false)) := by
          have e : bl W n ++ List.replicate q false ++ [false] = bl W n ++ List.replicate (q + 1) false := by rw [List.append_assoc, List.replicate_succ']
          rw [e] at hB6; exact hB6
        have hb7 : Below (w.heap.size + 2) wr w6 := ((Below.refl _ wr).alloc (by omega) _).trans hb6
        clear hown hgrow hB6 HB hb6
        go_wp2_with fail
        refine ⟨⟨q + 1, by omega, ?_, ⟨keepB_some hb7 (by simp) (by rw [hcr.1]; rfl), keepB_some hb7 (by simp) (by rw [hcr.2.1]; rfl), keepB_some hb7 (by simp) (by rw [hcr.2.2]; rfl)⟩, keepB_frozen hb7 (by omega) HF.out, HB6.out, by omega, hbl.trans (hb7.mono (by omega))⟩, ?_⟩
        · congr 1; omega
        · simp [intOf]; omega
      · obtain rfl : q = k := by omega
        have hc0 : ((q - q : Nat) : Int) = 0 := by omega
        have HWD := word_bs HB.out (by rw [HLN.out]; omega) (by rw [HLN.out]; omega)
        rw [HLN.out, show ((W + q : Nat) : Int) = (W : Int) + q by omega] at HWD
        have HWH : Hid _ := HWD
        have hfr := HF.out
        clear HWD HB HF HLN
        have hbs := hbl.size
        go_wp2_with fail
        refine Calls.mono HWH.out ?_
        rintro e w4 ⟨rfl, hb4⟩
        have hb4' := below_step (w := w) hbl hb4
        have KF4 : w4.cell? ⟨w.heap.size + 1, 0, none⟩ = some (cv w4 ⟨w.heap.size + 1, 0, none⟩) ∧ w4.cell? ⟨w.heap.size + 1, 1, none⟩ = some (cv w4 ⟨w.heap.size + 1, 1, none⟩) ∧ w4.cell? ⟨w.heap.size + 1, 2, none⟩ = some (cv w4 ⟨w.heap.size + 1, 2, none⟩) ∧ (∀ o, w4.frozen? ⟨w.heap.size + 1, o, none⟩ = false) :=
          ⟨keep_some hb4 (by rw [hcr.1]; rfl), keep_some hb4 (by rw [hcr.2.1]; rfl), keep_some hb4 (by rw [hcr.2.2]; rfl), keep_frozen2 hb4 (by rw [hcr.1]; rfl) hfr⟩
        have hs4 := hb4'.size
        clear hb4 hcr hfr
        go_wp2_with fail
        refine bodyPost_ret (v := .tuple #[.agg #[.int .i64 ((W : Int) + q), .int .u64 (LO (nb (bl W n ++ List.replicate q false))), .int .u64 (HI (nb (bl W n ++ List.replicate q false)))], .int .i64 0]) (by simp [results, Tryz.results56, go_sem, *]) rfl ?_
        exact ⟨rfl, by go_grown⟩
  · obtain rfl : f = n.testBit (W - 1) := by rw [hf]; rfl
    clear hf
    obtain ⟨f, hfe⟩ : ∃ f, n.testBit (W - 1) = f := ⟨_, rfl⟩
    have HFE : Hid _ := hfe
    rw [hfe]
    clear hfe
    go_enter Tryz.func56, Tryz.ntmps56
    go_wp2_with fail
    refine (refword_yes h1 h2 hn _).mono ?_
    rintro e w1 ⟨rfl, hb1⟩
    have hb1' := below_step (w := w) (by go_grown) hb1
    have hs1 := hb1'.size
    have KF1 : W3 w1 w.heap.size W n <| F3 w1 w.heap.size <| S3 w1 (w.heap.size + 1) <| F3 w1 (w.heap.size + 1) <| True := (by refine k3 hb1 ?_ ?_ ?_ <| f3 hb1 ?_ ?_ <| s3 hb1 ?_ ?_ ?_ <| f3 hb1 ?_ ?_ <| trivial <;> (first | (simp [go_sem]; done))); have KF1z0 := zT KF1; have KF1z1 := zT KF1.2.2.2.2
    clear hb1
    go_wp2_with fail
    refine (bits_own h2 hN rfl rfl rfl _).mono ?_
    rintro e w2 ⟨g, rfl, hB, hb2⟩
    have hb2' := below_step (w := w) (by go_grown) hb2
    have hs2 := hb2'.size
    have HBs : Hid (Bs w2 (w.heap.size + 2) (.slice (some ⟨g, 0, none⟩) W W) (bl W n)) := Bs.mono hB (by omega); clear hB
    have KF2 : W3 w2 w.heap.size W n <| F3 w2 w.heap.size <| S3 w2 (w.heap.size + 1) <| F3 w2 (w.heap.size + 1) <| True := (by refine k3 hb2 ?_ ?_ ?_ <| f3 hb2 ?_ ?_ <| s3 hb2 ?_ ?_ ?_ <| f3 hb2 ?_ ?_ <| trivial <;> (first | (simp [go_sem]; done) | (simp [go_sem, KF1]; done) | (simp [go_sem, KF1, World.cell?_alloc_some, frozen?_alloc_cells]; done))); have KF2z0 := zT KF2; have KF2z1 := zT KF2.2.2.2.2
    clear hb2 KF1
    go_wp2_with fail
    refine (refminus_bs HBs.out (bl_len W n).symm (by omega) h2 ((bl_get (by omega)).trans (congrArg some HFE.out))).mono ?_
    rintro e wz ⟨rfl, rfl⟩
    go_wp2_with fail
    go_loopw [1, 8] (fun c v wr => ∃ q : Nat, q ≤ k ∧ c = .int .i64 ((k - q : Nat) : Int) ∧ (wr.cell? ⟨w.heap.size + 1, 0, none⟩ = some (cv wr ⟨w.heap.size + 1, 0, none⟩) ∧ wr.cell? ⟨w.heap.size + 1, 1, none⟩ = some (cv wr ⟨w.heap.size + 1, 1, none⟩) ∧ wr.cell? ⟨w.heap.size + 1, 2, none⟩ = some (cv wr ⟨w.heap.size + 1, 2, none⟩)) ∧ (∀ o, wr.frozen? ⟨w.heap.size + 1, o, none⟩ = false) ∧ Bs wr (w.heap.size + 2) v (bl W n ++ List.replicate q f) ∧ w.heap.size + 2 ≤ wr.heap.size ∧ Below w.heap.size w wr) (fun c _ _ => (intOf c).toNat)
    case atStart =>
      refine ⟨0, Nat.zero_le _, rfl, ⟨?_, ?_, ?_⟩, ?_, ?_, ?_, ?_⟩
      · refine cv_some ?_; rw [KF2.2.2.2.2.1]; rfl
      · refine cv_some ?_; rw [KF2.2.2.2.2.2.1]; rfl
      · refine cv_some ?_; rw [KF2.2.2.2.2.2.2.1]; rfl
      · exact KF2.2.2.2.2.2.2.2.1
      · have h := HBs.out; simpa using h
      · have := KF2z1; omega
      · go_grown
    case round =>
      obtain ⟨q, hq, rfl, hcr, hfr, hB, hz, hbl⟩ := hrel
      have HB : Hid (Bs wr (w.heap.size + 2) u8 (bl W n ++ List.replicate q f)) := hB
      clear hB KF2 KF2z0 KF2z1 HBs
      have HF : Hid _ := hfr
      clear hfr
      have HLN : Hid ((bl W n ++ List.replicate q f).length = W + q) := by unfold Hid; simp [bl]
      by_cases hlt : q < k
      · have hc0 : (0 : Int) < ((k - q : Nat) : Int) := by omega
        have hc1 : 0 < k - q := by omega
        go_wp2_with (at_builtin; refine wpList_append_own _ rfl (.tmp 34) (.tmp 36) 93 rfl (w.heap.size + 2) 4 i0 (.bool false) 1 1 Tryz.underlying93 HI4.out.1 HI4.out.2.1 HI4.out.2.2.1 HI4.out.2.2.2 rfl (by decide) u8 (W + q) (bv (bl W n ++ List.replicate q f)) rfl (by have h := Bs.alloc HB.out (.cells #[.bool f] 4); unfold Bs at h; rw [HLN.out] at h; exact h) ⟨wr.heap.size, 0, none⟩ 1 1 [.bool f] rfl rfl (by intro j u hj; match j, hj with | 0, hj => simp at hj; subst hj; simp [Addr.add]) (by intro u hu; simp at hu; subst hu; rfl) (by unfold maxLen; omega) (by omega) (by simp; omega) ?_; intro v' w6 hown hgrow _)
        obtain ⟨hB6, hb6⟩ := app_bs (k := [f]) (Bs.alloc HB.out (.cells #[.bool f] 4)) HLN.out.symm rfl hown hgrow (by simp; omega)
        have hs6 : wr.heap.size + 1 ≤ w6.heap.size := by have := hgrow.size; simpa using this
        have HB6 : Hid (Bs w6 (w.heap.size + 2) v' (bl W n ++ List.replicate (q + 1) f)) := by
          have e : bl W n ++ List.replicate q f ++ [f] = bl W n ++ List.replicate (q + 1) f := by rw [List.append_assoc, List.replicate_succ']
          rw [e] at hB6; exact hB6
        have hb7 : Below (w.heap.size + 2) wr w6 := ((Below.refl _ wr).alloc (by omega) _).trans hb6
        clear hown hgrow hB6 HB hb6
        go_wp2_with fail
        refine ⟨⟨q + 1, by omega, ?_, ⟨keepB_some hb7 (by simp) (by rw [hcr.1]; rfl), keepB_some hb7 (by simp) (by rw [hcr.2.1]; rfl), keepB_some hb7 (by simp) (by rw [hcr.2.2]; rfl)⟩, keepB_frozen hb7 (by omega) HF.out, HB6.out, by omega, hbl.trans (hb7.mono (by omega))⟩, ?_⟩
        · congr 1; omega
        · simp [intOf]; omega
      · obtain rfl : q = k := by omega
        have hc0 : ((q - q : Nat) : Int) = 0 := by omega
        have HWD := word_bs HB.out (by rw [HLN.out]; omega) (by rw [HLN.out]; omega)
        rw [HLN.out, show ((W + q : Nat) : Int) = (W : Int) + q by omega] at HWD
        have HWH : Hid _ := HWD
        have hfr := HF.out
        clear HWD HB HF HLN
        have hbs := hbl.size
        go_wp2_with fail
        refine Calls.mono HWH.out ?_
        rintro e w4 ⟨rfl, hb4⟩
        have hb4' := below_step (w := w) hbl hb4
        have KF4 : w4.cell? ⟨w.heap.size + 1, 0, none⟩ = some (cv w4 ⟨w.heap.size + 1, 0, none⟩) ∧ w4.cell? ⟨w.heap.size + 1, 1, none⟩ = some (cv w4 ⟨w.heap.size + 1, 1, none⟩) ∧ w4.cell? ⟨w.heap.size + 1, 2, none⟩ = some (cv w4 ⟨w.heap.size + 1, 2, none⟩) ∧ (∀ o, w4.frozen? ⟨w.heap.size + 1, o, none⟩ = false) :=
          ⟨keep_some hb4 (by rw [hcr.1]; rfl), keep_some hb4 (by rw [hcr.2.1]; rfl), keep_some hb4 (by rw [hcr.2.2]; rfl), keep_frozen2 hb4 (by rw [hcr.1]; rfl) hfr⟩
        have hs4 := hb4'.size
        clear hb4 hcr hfr
        go_wp2_with fail
        refine bodyPost_ret (v := .tuple #[.agg #[.int .i64 ((W : Int) + q), .int .u64 (LO (nb (bl W n ++ List.replicate q f))), .int .u64 (HI (nb (bl W n ++ List.replicate q f)))], .int .i64 0]) (by simp [results, Tryz.results56, go_sem, *]) rfl ?_
        exact ⟨rfl, by go_grown⟩
end Go.Proofs.YtnflphhckgeneaaGreat
