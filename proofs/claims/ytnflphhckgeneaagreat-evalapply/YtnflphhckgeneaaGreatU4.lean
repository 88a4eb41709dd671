/- Contracts: the document's extraction and rotation. -/
import Derived.Deep.CutRange
import Derived.Test.YtnflphhckgeneaaGreatMg26
namespace Go.Proofs.YtnflphhckgeneaaGreat
set_option maxHeartbeats 12800000
set_option maxRecDepth 100000
open Go.RowKit
set_option linter.unusedSimpArgs false
set_option linter.unusedVariables false

theorem refextract_any {W n i j : Nat} (h1 : 1 ≤ W) (h2 : W ≤ 128) (hn : n < 2 ^ W) (hji : j ≤ i) (hiW : i < W) (w : World) :
    Rt 55 #[.agg #[.int .i64 W, .int .u64 (LO (n)), .int .u64 (HI (n))], .int .i64 (i : Int), .int .i64 (j : Int)] w (.tuple #[.agg #[.int .i64 ((i : Int) - j + 1), .int .u64 (LO (n / 2 ^ j % 2 ^ (i - j + 1))), .int .u64 (HI (n / 2 ^ j % 2 ^ (i - j + 1)))], .int .i64 0]) := by
  have hN : n < 2 ^ 128 := Nat.lt_of_lt_of_le hn (pow_le_128 h2)
  have HW : Hid (((i : Int) - j + 1) = ((i - j + 1 : Nat) : Int)) := by unfold Hid; omega
  have HWD : Hid (∀ (g : Nat) (wx : World), (∀ q, q < i + 1 - j → wx.cell? ⟨g, j + q, none⟩ = some (.bool ((n / 2 ^ j).testBit q))) → g < wx.heap.size → Rt 49 #[.slice (some ⟨g, j, none⟩) (i + 1 - j) (W - j)] wx (.agg #[.int .i64 ((i : Int) - j + 1), .int .u64 (LO (n / 2 ^ j % 2 ^ (i - j + 1))), .int .u64 (HI (n / 2 ^ j % 2 ^ (i - j + 1)))])) := fun g wx hx hg => by
    rw [HW.out, show i - j + 1 = i + 1 - j by omega]
    exact word_at (by omega) (Nat.lt_of_le_of_lt (Nat.div_le_self _ _) hN) wx hx hg
  have hc1 : (j : Int) ≤ (i : Int) + 1 := by omega
  have hc2 : (i : Int) + 1 ≤ (W : Int) := by omega
  have hc3 : (0 : Int) ≤ (j : Int) := by omega
  go_enter Tryz.func55, Tryz.ntmps55
  go_wp2_with fail
  refine (refword_yes h1 h2 hn _).mono ?_
  rintro e w1 ⟨rfl, hb1⟩
  have hb1' := below_step (w := w) (by go_grown) hb1
  have hs1 := hb1'.size
  have KF1 : W3 w1 w.heap.size W n <| F3 w1 w.heap.size <| S3 w1 (w.heap.size + 1) <| F3 w1 (w.heap.size + 1) <| True := (by refine k3 hb1 ?_ ?_ ?_ <| f3 hb1 ?_ ?_ <| s3 hb1 ?_ ?_ ?_ <| f3 hb1 ?_ ?_ <| trivial <;> (first | (simp [go_sem]; done))); have KF1z0 := zT KF1; have KF1z1 := zT KF1.2.2.2.2
  clear hb1
  go_wp2_with fail
  refine (bits_own h2 hN rfl rfl rfl _).mono ?_
  rintro e w2 ⟨g, rfl, hB, hb2⟩
  have hb2' := below_step (w := w) (by go_grown) hb2
  have hs2 := hb2'.size
  have HBs : Hid (Bs w2 _ (.slice (some ⟨g, 0, none⟩) W W) (bl W n)) := hB; clear hB
  have KF2 : W3 w2 w.heap.size W n <| F3 w2 w.heap.size <| S3 w2 (w.heap.size + 1) <| F3 w2 (w.heap.size + 1) <| True := (by refine k3 hb2 ?_ ?_ ?_ <| f3 hb2 ?_ ?_ <| s3 hb2 ?_ ?_ ?_ <| f3 hb2 ?_ ?_ <| trivial <;> (first | (simp [go_sem]; done) | (simp [go_sem, KF1]; done) | (simp [go_sem, KF1, World.cell?_alloc_some, frozen?_alloc_cells]; done))); have KF2z0 := zT KF2; have KF2z1 := zT KF2.2.2.2.2
  clear hb2 KF1
  have HCL : Hid (∀ q, q < i + 1 - j → w2.cell? ⟨g, j + q, none⟩ = some (.bool ((n / 2 ^ j).testBit q))) := fun q hq => by
    have h := bs_cells HBs.out (j + q) (by omega)
    rw [Nat.zero_add] at h
    rw [h, Nat.testBit_div_two_pow, Nat.add_comm q j]
  have HLT : Hid (g < w2.heap.size) := (Bs.lt HBs.out).2
  clear HBs
  go_wp2_with fail
  refine (HWD.out _ _ HCL.out HLT.out).mono ?_
  rintro e w3 ⟨rfl, hb3⟩
  have hb3' := below_step (w := w) (by go_grown) hb3
  have hs3 := hb3'.size
  have KF3 : W3 w3 w.heap.size W n <| F3 w3 w.heap.size <| S3 w3 (w.heap.size + 1) <| F3 w3 (w.heap.size + 1) <| True := (by refine k3 hb3 ?_ ?_ ?_ <| f3 hb3 ?_ ?_ <| s3 hb3 ?_ ?_ ?_ <| f3 hb3 ?_ ?_ <| trivial <;> (first | (simp [go_sem]; done) | (simp [go_sem, KF2]; done) | (simp [go_sem, KF2, World.cell?_alloc_some, frozen?_alloc_cells]; done))); have KF3z0 := zT KF3; have KF3z1 := zT KF3.2.2.2.2
  clear hb3 KF2
  go_wp2_with fail
  refine bodyPost_ret (v := .tuple #[.agg #[.int .i64 ((i : Int) - j + 1), .int .u64 (LO (n / 2 ^ j % 2 ^ (i - j + 1))), .int .u64 (HI (n / 2 ^ j % 2 ^ (i - j + 1)))], .int .i64 0]) (by simp [results, Tryz.results55, go_sem, *]) rfl ?_
  exact ⟨rfl, by go_grown⟩

theorem getD_get {l : List Bool} {q : Nat} (h : q < l.length) : l[q]? = some (l.getD q false) := by simp [h]
/-- Where bit q of a word that is turned round by u comes from. -/
def from_ (W u q : Nat) : Nat := (q + (W - u)) % W
def turnl (W n u k : Nat) : List Bool := (List.range W).map fun q => decide (from_ W u q < k) && n.testBit (from_ W u q)
theorem turnl_len (W n u k : Nat) : (turnl W n u k).length = W := by simp [turnl]
theorem from_to {W u k : Nat} (hu : u ≤ W) (hk : k < W) : from_ W u ((k + u) % W) = k := by
  unfold from_
  by_cases h : k + u < W
  · rw [Nat.mod_eq_of_lt h, show k + u + (W - u) = k + W by omega, Nat.add_mod_right, Nat.mod_eq_of_lt hk]
  · have h2 : (k + u) % W = k + u - W := by rw [Nat.mod_eq_sub_mod (by omega), Nat.mod_eq_of_lt (by omega)]
    rw [h2]
    by_cases h3 : k + u - W + (W - u) < W
    · rw [Nat.mod_eq_of_lt h3]; omega
    · omega
theorem from_inj {W u k q : Nat} (hu : u ≤ W) (hq : q < W) (h : from_ W u q = k) : q = (k + u) % W := by
  unfold from_ at h
  by_cases h1 : q + (W - u) < W
  · rw [Nat.mod_eq_of_lt h1] at h
    rw [← h, show q + (W - u) + u = q + W by omega, Nat.add_mod_right, Nat.mod_eq_of_lt hq]
  · have h2 : (q + (W - u)) % W = q + (W - u) - W := by
      rw [Nat.mod_eq_sub_mod (by omega)]
      by_cases h3 : q + (W - u) - W < W
      · rw [Nat.mod_eq_of_lt h3]
      · omega
    rw [h2] at h
    rw [← h, show q + (W - u) - W + u = q by omega, Nat.mod_eq_of_lt hq]
theorem turnl_set {W n u k : Nat} (hu : u ≤ W) (hk : k < W) : (turnl W n u k).set ((k + u) % W) (n.testBit k) = turnl W n u (k + 1) := by
  apply List.ext_getElem?
  intro q
  rw [List.getElem?_set]
  have hp : (k + u) % W < W := Nat.mod_lt _ (by omega)
  by_cases hq : q < W
  · by_cases e : (k + u) % W = q
    · subst e
      simp [turnl, hp, from_to hu hk]
    · have hne : from_ W u q ≠ k := fun h => e (from_inj hu hq h).symm
      have : decide (from_ W u q < k + 1) = decide (from_ W u q < k) := by
        by_cases h1 : from_ W u q < k <;> simp [h1] <;> omega
      simp [turnl, hq, e, this]
  · have : ¬ (k + u) % W = q := by omega
    simp [turnl, hq, this]
theorem turnl_zero (W n u : Nat) : turnl W n u 0 = List.replicate W false := by
  apply List.ext_getElem?; intro q
  by_cases h : q < W <;> simp [turnl, h]
theorem turnl_num {W n u : Nat} (h1 : 1 ≤ W) (hn : n < 2 ^ W) (hu : u ≤ W) {j : Nat} (hj : j < W) : (turnl W n u W)[j]? = some ((rot W n u).testBit j) := by
  have hf : from_ W u j < W := Nat.mod_lt _ (by omega)
  have hout : ∀ q, W ≤ q → n.testBit q = false := fun q hq => Nat.testBit_lt_two_pow (Nat.lt_of_lt_of_le hn (Nat.pow_le_pow_right (by decide) hq))
  have e : (rot W n u).testBit j = n.testBit (from_ W u j) := by
    unfold rot
    rw [Nat.testBit_or, Nat.testBit_mod_two_pow, Nat.testBit_div_two_pow, Nat.mul_comm, Nat.testBit_two_pow_mul]
    unfold from_
    by_cases hju : u ≤ j
    · have hq : (j + (W - u)) % W = j - u := by
        rw [show j + (W - u) = j - u + W by omega, Nat.add_mod_right, Nat.mod_eq_of_lt (by omega)]
      rw [hq, hout (j + (W - u)) (by omega)]
      simp [hj, hju]
    · have hq : (j + (W - u)) % W = j + (W - u) := Nat.mod_eq_of_lt (by omega)
      rw [hq]
      simp [hju]
  rw [e]
  simp [turnl, hj, hf]

theorem refrotate_u {W n u r : Nat} {i : Int} {b : Bool} (h1 : 1 ≤ W) (h2 : W ≤ 128) (hn : n < 2 ^ W) (hi : 0 ≤ i) (hi2 : i < 9223372036854775808) (hr : r = i.toNat % W) (hu : u = if b then r else W - r) (w : World) :
    Rt 57 #[.agg #[.int .i64 W, .int .u64 (LO (n)), .int .u64 (HI (n))], .int .i64 i, .bool b] w (.tuple #[.agg #[.int .i64 W, .int .u64 (LO (rot W n u)), .int .u64 (HI (rot W n u))], .int .i64 0]) := by
  have hN : n < 2 ^ 128 := Nat.lt_of_lt_of_le hn (pow_le_128 h2)
  have hrW : r < W := by rw [hr]; exact Nat.mod_lt _ (by omega)
  have huW : u ≤ W := by rw [hu]; split <;> omega
  have hR : rot W n u < 2 ^ W := by
    unfold rot
    exact Nat.or_lt_two_pow (mod_lt_W _ _) (Nat.lt_of_le_of_lt (Nat.div_le_self _ _) hn)
  have hz : ¬ ((W : Int) = 0) := by omega
  have hrm : ∀ w, (binOp .rem 3 (.int .i64 i) (.int .i64 (W : Int))).run Tryz.prog w = .ok (.int .i64 (r : Int)) w := by
    intro w
    have hmod : i.tmod (W : Int) = (r : Int) := by
      rw [Int.tmod_eq_emod_of_nonneg hi, hr]
      obtain ⟨q, rfl⟩ := Int.eq_ofNat_of_zero_le hi
      simp
    simp [go_sem]
    rw [if_neg (by omega), hmod]
  have hmi : i % (W : Int) = (r : Int) := by
    rw [hr]
    obtain ⟨q, rfl⟩ := Int.eq_ofNat_of_zero_le hi
    simp
  have hmi2 : i.tmod (W : Int) = (r : Int) := by rw [Int.tmod_eq_emod_of_nonneg hi]; exact hmi
  have hrI : (r : Int) < (W : Int) := by omega
  have hmk := make_bools W h2
  have HWD : Hid (∀ (g : Nat) (wx : World), (∀ j, j < W → wx.cell? ⟨g, 0 + j, none⟩ = some (.bool ((rot W n u).testBit j))) → g < wx.heap.size → Rt 49 #[.slice (some ⟨g, 0, none⟩) W W] wx (.agg #[.int .i64 W, .int .u64 (LO (rot W n u)), .int .u64 (HI (rot W n u))])) := fun g wx hx hg => by
    have h := word_at (cap := W) h2 (Nat.lt_of_lt_of_le hR (pow_le_128 h2)) wx hx hg
    rw [Nat.mod_eq_of_lt hR] at h
    exact h
  have hnn : ¬ (i < 0) := by omega
  cases b
  · have hwu : (W : Int) - (r : Int) = (u : Int) := by rw [hu]; simp; omega
    have hwr : IntKind.i64.wrap ((W : Int) - r) = (u : Int) := by rw [wrap_nat (m := u) hwu (by omega)]
    clear hu hr hi
    go_enter Tryz.func57, Tryz.ntmps57
    go_wp2_with fail
    refine (refword_yes h1 h2 hn _).mono ?_
    rintro e w1 ⟨rfl, hb1⟩
    have hb1' := below_step (w := w) (by go_grown) hb1
    have hs1 := hb1'.size
    have KF1 : W3 w1 w.heap.size W n <| F3 w1 w.heap.size <| S3 w1 (w.heap.size + 1) <| F3 w1 (w.heap.size + 1) <| True := (by refine k3 hb1 ?_ ?_ ?_ <| f3 hb1 ?_ ?_ <| s3 hb1 ?_ ?_ ?_ <| f3 hb1 ?_ ?_ <| trivial <;> (first | (simp [go_sem]; done))); have KF1z0 := zT KF1; have KF1z1 := zT KF1.2.2.2.2
    clear hb1
    go_wp2_with fail
    refine (bits_own h2 hN rfl rfl rfl _).mono ?_
    rintro e w2 ⟨g, rfl, hB, hb2⟩
    have hb2' := below_step (w := w) (by go_grown) hb2
    have hs2 := hb2'.size
    have HBs : Hid (Bs w2 _ (.slice (some ⟨g, 0, none⟩) W W) (bl W n)) := hB; clear hB
    have KF2 : W3 w2 w.heap.size W n <| F3 w2 w.heap.size <| S3 w2 (w.heap.size + 1) <| F3 w2 (w.heap.size + 1) <| True := (by refine k3 hb2 ?_ ?_ ?_ <| f3 hb2 ?_ ?_ <| s3 hb2 ?_ ?_ ?_ <| f3 hb2 ?_ ?_ <| trivial <;> (first | (simp [go_sem]; done) | (simp [go_sem, KF1]; done) | (simp [go_sem, KF1, World.cell?_alloc_some, frozen?_alloc_cells]; done))); have KF2z0 := zT KF2; have KF2z1 := zT KF2.2.2.2.2
    clear hb2 KF1
    have HLT : Hid (g < w2.heap.size) := (Bs.lt HBs.out).2
    have HCL : Hid (∀ j, j < W → w2.cell? ⟨g, j, none⟩ = some (.bool (n.testBit j))) := fun j hj => by have h := bs_cells HBs.out j hj; rw [Nat.zero_add] at h; exact h
    clear HBs
    go_wp2_with fail
    go_loopw [10] (fun i wr => ∃ k : Nat, k ≤ W ∧ i = .int .i64 k ∧ (wr.cell? ⟨w.heap.size, 0, none⟩ = some (.int .i64 W) ∧ wr.cell? ⟨w.heap.size, 1, none⟩ = some (.int .u64 (LO n)) ∧ wr.cell? ⟨w.heap.size, 2, none⟩ = some (.int .u64 (HI n))) ∧ (wr.cell? ⟨w.heap.size + 1, 0, none⟩ = some (cv wr ⟨w.heap.size + 1, 0, none⟩) ∧ wr.cell? ⟨w.heap.size + 1, 1, none⟩ = some (cv wr ⟨w.heap.size + 1, 1, none⟩) ∧ wr.cell? ⟨w.heap.size + 1, 2, none⟩ = some (cv wr ⟨w.heap.size + 1, 2, none⟩)) ∧ (∀ o, wr.frozen? ⟨w.heap.size + 1, o, none⟩ = false) ∧ (∀ j, j < W → wr.cell? ⟨g, j, none⟩ = some (.bool (n.testBit j))) ∧ Bs wr w2.heap.size (.slice (some ⟨w2.heap.size, 0, none⟩) W W) (turnl W n u k) ∧ Below w.heap.size w wr) (fun i _ => W - (intOf i).toNat)
    case atStart =>
      refine ⟨0, Nat.zero_le _, rfl, ⟨?_, ?_, ?_⟩, ⟨?_, ?_, ?_⟩, ?_, ?_, ?_, ?_⟩
      · simp [go_sem, KF2, KF2z0, KF2z1]
      · simp [go_sem, KF2, KF2z0, KF2z1]
      · simp [go_sem, KF2, KF2z0, KF2z1]
      · refine cv_some ?_; simp [go_sem, KF2, KF2z0, KF2z1, World.cell?_alloc_some]
      · refine cv_some ?_; simp [go_sem, KF2, KF2z0, KF2z1, World.cell?_alloc_some]
      · refine cv_some ?_; simp [go_sem, KF2, KF2z0, KF2z1, World.cell?_alloc_some]
      · intro o; rw [World.frozen?_alloc_old _ _ _ (Nat.ne_of_lt KF2z1)]; exact KF2.2.2.2.2.2.2.2.1 o
      · intro j hj; rw [World.cell?_alloc_lt _ _ _ HLT.out]; exact HCL.out j hj
      · rw [turnl_zero]; exact Bs.made W (Nat.le_refl _) (by omega)
      · go_grown
    case round =>
      obtain ⟨k, hk, rfl, hca, hcr, hfr, hcl, hB, hbl⟩ := hrel
      have HB : Hid (Bs wr w2.heap.size (.slice (some ⟨w2.heap.size, 0, none⟩) W W) (turnl W n u k)) := hB
      clear hB HCL
      have HCL : Hid _ := hcl
      clear hcl
      have hgz := HLT.out
      have hz0 := KF2z0
      have hz1 := KF2z1
      clear KF2 KF2z0 KF2z1
      by_cases hlt : k < W
      · obtain ⟨q, hq⟩ : ∃ q, q = (k + u) % W := ⟨_, rfl⟩
        have hqW : q < W := by rw [hq]; exact Nat.mod_lt _ (by omega)
        have hck := HCL.out k hlt
        have hcq : wr.cell? ⟨w2.heap.size, q, none⟩ = some (.bool ((turnl W n u k).getD q false)) := Bs.cell HB.out (turnl_len W n u k).symm (getD_get (by rw [turnl_len]; exact hqW))
        have hfq : wr.frozen? ⟨w2.heap.size, q, none⟩ = false := Bs.frozen HB.out (turnl_len W n u k).symm q
        obtain ⟨ku, hku⟩ : ∃ ku : Nat, ku = k + u := ⟨_, rfl⟩
        have hwk : IntKind.i64.wrap ((k : Int) + (u : Int)) = (ku : Int) := wrap_nat (by omega) (by omega)
        have hwk2 : (k : Int) + (u : Int) = (ku : Int) := by omega
        have hwk3 : IntKind.i64.wrap (ku : Int) = (ku : Int) := wrap_nat rfl (by omega)
        have hrk : ∀ w, (binOp .rem 3 (.int .i64 (ku : Int)) (.int .i64 (W : Int))).run Tryz.prog w = .ok (.int .i64 (q : Int)) w := by
          intro w
          have hmod : (ku : Int).tmod (W : Int) = (q : Int) := by
            rw [Int.tmod_eq_emod_of_nonneg (by omega), hq, ← hku]; rfl
          simp [go_sem]
          rw [if_neg (by omega), hmod]
        have hzn : ¬ (W = 0) := by omega
        have hm1 : (ku : Int).tmod (W : Int) = (q : Int) := by
          rw [Int.tmod_eq_emod_of_nonneg (by omega), hq, ← hku]; rfl
        have hm2 : (ku : Int) % (W : Int) = (q : Int) := by rw [hq, ← hku]; rfl
        have hqI : (q : Int) < (W : Int) := by omega
        clear hku
        have HQ : Hid (q = (k + u) % W) := hq
        clear hq
        have ne1 : ¬ (w2.heap.size = w.heap.size) := by omega
        have ne2 : ¬ (w2.heap.size = g) := by omega
        have ne3 : ¬ (w2.heap.size = w.heap.size + 1) := by omega
        go_wp2_with fail
        go_region_held3 (fun x => x.cell? ⟨w.heap.size, 0, none⟩ = some (.int .i64 W) ∧ x.cell? ⟨g, k, none⟩ = some (.bool (n.testBit k)))
          ((refine ⟨?_, ?_⟩ <;> simp [go_sem, hca, hck, ne1, ne2]))
          (fail)
        go_wp2_with fail
        refine ⟨⟨k + 1, by omega, by go_num, ⟨?_, ?_, ?_⟩, ⟨?_, ?_, ?_⟩, ?_, ?_, ?_, ?_⟩, by simp [intOf]; omega⟩
        · rw [World.cell?_drew, World.cell?_setCell_other _ _ _ _ (by simp [ne1])]; exact hca.1
        · rw [World.cell?_drew, World.cell?_setCell_other _ _ _ _ (by simp [ne1])]; exact hca.2.1
        · rw [World.cell?_drew, World.cell?_setCell_other _ _ _ _ (by simp [ne1])]; exact hca.2.2
        · refine cv_some ?_; rw [World.cell?_drew, World.cell?_setCell_other _ _ _ _ (by simp [ne3]), hcr.1]; rfl
        · refine cv_some ?_; rw [World.cell?_drew, World.cell?_setCell_other _ _ _ _ (by simp [ne3]), hcr.2.1]; rfl
        · refine cv_some ?_; rw [World.cell?_drew, World.cell?_setCell_other _ _ _ _ (by simp [ne3]), hcr.2.2]; rfl
        · intro o; exact (World.frozen?_setCell ..).trans (hfr o)
        · intro j hj; rw [World.cell?_drew, World.cell?_setCell_other _ _ _ _ (by simp [ne2])]; exact HCL.out j hj
        · rw [← turnl_set huW hlt, ← HQ.out]; exact Bs.drew (Bs.store HB.out (turnl_len W n u k).symm q _)
        · exact (hbl.setCell (by have := hbl.size; simp; omega) _).drew
      · obtain rfl : k = W := by omega
        have HC2 : Hid (∀ j, j < k → wr.cell? ⟨w2.heap.size, 0 + j, none⟩ = some (.bool ((rot k n u).testBit j))) := fun j hj => by
          rw [Nat.zero_add]; exact Bs.cell HB.out (turnl_len k n u k).symm (turnl_num h1 hn huW hj)
        have HL2 : Hid (w2.heap.size < wr.heap.size) := (Bs.lt HB.out).2
        have hbs := hbl.size
        have hfr' : wr.frozen? ⟨w.heap.size + 1, 0, none⟩ = false ∧ wr.frozen? ⟨w.heap.size + 1, 1, none⟩ = false ∧ wr.frozen? ⟨w.heap.size + 1, 2, none⟩ = false := ⟨hfr 0, hfr 1, hfr 2⟩
        clear HB HCL
        go_wp2_with fail
        refine (HWD.out _ _ HC2.out HL2.out).mono ?_
        rintro e w4 ⟨rfl, hb4⟩
        have hb4' := below_step (w := w) hbl hb4
        have KF4 : w4.cell? ⟨w.heap.size + 1, 0, none⟩ = some (cv w4 ⟨w.heap.size + 1, 0, none⟩) ∧ w4.cell? ⟨w.heap.size + 1, 1, none⟩ = some (cv w4 ⟨w.heap.size + 1, 1, none⟩) ∧ w4.cell? ⟨w.heap.size + 1, 2, none⟩ = some (cv w4 ⟨w.heap.size + 1, 2, none⟩) ∧ (∀ o, w4.frozen? ⟨w.heap.size + 1, o, none⟩ = false) :=
          ⟨keep_some hb4 (by rw [hcr.1]; rfl), keep_some hb4 (by rw [hcr.2.1]; rfl), keep_some hb4 (by rw [hcr.2.2]; rfl), keep_frozen2 hb4 (by rw [hcr.1]; rfl) hfr⟩
        have hs4 := hb4'.size
        clear hb4 hcr hfr hfr' hca
        go_wp2_with fail
        refine bodyPost_ret (v := .tuple #[.agg #[.int .i64 k, .int .u64 (LO (rot k n u)), .int .u64 (HI (rot k n u))], .int .i64 0]) (by simp [results, Tryz.results57, go_sem, *]) rfl ?_
        exact ⟨rfl, by go_grown⟩
  · have hwu : r = u := by rw [hu]; simp
    subst hwu
    clear hu hr hi
    go_enter Tryz.func57, Tryz.ntmps57
    go_wp2_with fail
    refine (refword_yes h1 h2 hn _).mono ?_
    rintro e w1 ⟨rfl, hb1⟩
    have hb1' := below_step (w := w) (by go_grown) hb1
    have hs1 := hb1'.size
    have KF1 : W3 w1 w.heap.size W n <| F3 w1 w.heap.size <| S3 w1 (w.heap.size + 1) <| F3 w1 (w.heap.size + 1) <| True := (by refine k3 hb1 ?_ ?_ ?_ <| f3 hb1 ?_ ?_ <| s3 hb1 ?_ ?_ ?_ <| f3 hb1 ?_ ?_ <| trivial <;> (first | (simp [go_sem]; done))); have KF1z0 := zT KF1; have KF1z1 := zT KF1.2.2.2.2
    clear hb1
    go_wp2_with fail
    refine (bits_own h2 hN rfl rfl rfl _).mono ?_
    rintro e w2 ⟨g, rfl, hB, hb2⟩
    have hb2' := below_step (w := w) (by go_grown) hb2
    have hs2 := hb2'.size
    have HBs : Hid (Bs w2 _ (.slice (some ⟨g, 0, none⟩) W W) (bl W n)) := hB; clear hB
    have KF2 : W3 w2 w.heap.size W n <| F3 w2 w.heap.size <| S3 w2 (w.heap.size + 1) <| F3 w2 (w.heap.size + 1) <| True := (by refine k3 hb2 ?_ ?_ ?_ <| f3 hb2 ?_ ?_ <| s3 hb2 ?_ ?_ ?_ <| f3 hb2 ?_ ?_ <| trivial <;> (first | (simp [go_sem]; done) | (simp [go_sem, KF1]; done) | (simp [go_sem, KF1, World.cell?_alloc_some, frozen?_alloc_cells]; done))); have KF2z0 := zT KF2; have KF2z1 := zT KF2.2.2.2.2
    clear hb2 KF1
    have HLT : Hid (g < w2.heap.size) := (Bs.lt HBs.out).2
    have HCL : Hid (∀ j, j < W → w2.cell? ⟨g, j, none⟩ = some (.bool (n.testBit j))) := fun j hj => by have h := bs_cells HBs.out j hj; rw [Nat.zero_add] at h; exact h
    clear HBs
    go_wp2_with fail
    go_loopw [10] (fun i wr => ∃ k : Nat, k ≤ W ∧ i = .int .i64 k ∧ (wr.cell? ⟨w.heap.size, 0, none⟩ = some (.int .i64 W) ∧ wr.cell? ⟨w.heap.size, 1, none⟩ = some (.int .u64 (LO n)) ∧ wr.cell? ⟨w.heap.size, 2, none⟩ = some (.int .u64 (HI n))) ∧ (wr.cell? ⟨w.heap.size + 1, 0, none⟩ = some (cv wr ⟨w.heap.size + 1, 0, none⟩) ∧ wr.cell? ⟨w.heap.size + 1, 1, none⟩ = some (cv wr ⟨w.heap.size + 1, 1, none⟩) ∧ wr.cell? ⟨w.heap.size + 1, 2, none⟩ = some (cv wr ⟨w.heap.size + 1, 2, none⟩)) ∧ (∀ o, wr.frozen? ⟨w.heap.size + 1, o, none⟩ = false) ∧ (∀ j, j < W → wr.cell? ⟨g, j, none⟩ = some (.bool (n.testBit j))) ∧ Bs wr w2.heap.size (.slice (some ⟨w2.heap.size, 0, none⟩) W W) (turnl W n r k) ∧ Below w.heap.size w wr) (fun i _ => W - (intOf i).toNat)
    case atStart =>
      refine ⟨0, Nat.zero_le _, rfl, ⟨?_, ?_, ?_⟩, ⟨?_, ?_, ?_⟩, ?_, ?_, ?_, ?_⟩
      · simp [go_sem, KF2, KF2z0, KF2z1]
      · simp [go_sem, KF2, KF2z0, KF2z1]
      · simp [go_sem, KF2, KF2z0, KF2z1]
      · refine cv_some ?_; simp [go_sem, KF2, KF2z0, KF2z1, World.cell?_alloc_some]
      · refine cv_some ?_; simp [go_sem, KF2, KF2z0, KF2z1, World.cell?_alloc_some]
      · refine cv_some ?_; simp [go_sem, KF2, KF2z0, KF2z1, World.cell?_alloc_some]
      · intro o; rw [World.frozen?_alloc_old _ _ _ (Nat.ne_of_lt KF2z1)]; exact KF2.2.2.2.2.2.2.2.1 o
      · intro j hj; rw [World.cell?_alloc_lt _ _ _ HLT.out]; exact HCL.out j hj
      · rw [turnl_zero]; exact Bs.made W (Nat.le_refl _) (by omega)
      · go_grown
    case round =>
      obtain ⟨k, hk, rfl, hca, hcr, hfr, hcl, hB, hbl⟩ := hrel
      have HB : Hid (Bs wr w2.heap.size (.slice (some ⟨w2.heap.size, 0, none⟩) W W) (turnl W n r k)) := hB
      clear hB HCL
      have HCL : Hid _ := hcl
      clear hcl
      have hgz := HLT.out
      have hz0 := KF2z0
      have hz1 := KF2z1
      clear KF2 KF2z0 KF2z1
      by_cases hlt : k < W
      · obtain ⟨q, hq⟩ : ∃ q, q = (k + r) % W := ⟨_, rfl⟩
        have hqW : q < W := by rw [hq]; exact Nat.mod_lt _ (by omega)
        have hck := HCL.out k hlt
        have hcq : wr.cell? ⟨w2.heap.size, q, none⟩ = some (.bool ((turnl W n r k).getD q false)) := Bs.cell HB.out (turnl_len W n r k).symm (getD_get (by rw [turnl_len]; exact hqW))
        have hfq : wr.frozen? ⟨w2.heap.size, q, none⟩ = false := Bs.frozen HB.out (turnl_len W n r k).symm q
        obtain ⟨ku, hku⟩ : ∃ ku : Nat, ku = k + r := ⟨_, rfl⟩
        have hwk : IntKind.i64.wrap ((k : Int) + (r : Int)) = (ku : Int) := wrap_nat (by omega) (by omega)
        have hwk2 : (k : Int) + (r : Int) = (ku : Int) := by omega
        have hwk3 : IntKind.i64.wrap (ku : Int) = (ku : Int) := wrap_nat rfl (by omega)
        have hrk : ∀ w, (binOp .rem 3 (.int .i64 (ku : Int)) (.int .i64 (W : Int))).run Tryz.prog w = .ok (.int .i64 (q : Int)) w := by
          intro w
          have hmod : (ku : Int).tmod (W : Int) = (q : Int) := by
            rw [Int.tmod_eq_emod_of_nonneg (by omega), hq, ← hku]; rfl
          simp [go_sem]
          rw [if_neg (by omega), hmod]
        have hzn : ¬ (W = 0) := by omega
        have hm1 : (ku : Int).tmod (W : Int) = (q : Int) := by
          rw [Int.tmod_eq_emod_of_nonneg (by omega), hq, ← hku]; rfl
        have hm2 : (ku : Int) % (W : Int) = (q : Int) := by rw [hq, ← hku]; rfl
        have hqI : (q : Int) < (W : Int) := by omega
        clear hku
        have HQ : Hid (q = (k + r) % W) := hq
        clear hq
        have ne1 : ¬ (w2.heap.size = w.heap.size) := by omega
        have ne2 : ¬ (w2.heap.size = g) := by omega
        have ne3 : ¬ (w2.heap.size = w.heap.size + 1) := by omega
        go_wp2_with fail
        go_region_held3 (fun x => x.cell? ⟨w.heap.size, 0, none⟩ = some (.int .i64 W) ∧ x.cell? ⟨g, k, none⟩ = some (.bool (n.testBit k)))
          ((refine ⟨?_, ?_⟩ <;> simp [go_sem, hca, hck, ne1, ne2]))
          (fail)
        go_wp2_with fail
        refine ⟨⟨k + 1, by omega, by go_num, ⟨?_, ?_, ?_⟩, ⟨?_, ?_, ?_⟩, ?_, ?_, ?_, ?_⟩, by simp [intOf]; omega⟩
        · rw [World.cell?_drew, World.cell?_setCell_other _ _ _ _ (by simp [ne1])]; exact hca.1
        · rw [World.cell?_drew, World.cell?_setCell_other _ _ _ _ (by simp [ne1])]; exact hca.2.1
        · rw [World.cell?_drew, World.cell?_setCell_other _ _ _ _ (by simp [ne1])]; exact hca.2.2
        · refine cv_some ?_; rw [World.cell?_drew, World.cell?_setCell_other _ _ _ _ (by simp [ne3]), hcr.1]; rfl
        · refine cv_some ?_; rw [World.cell?_drew, World.cell?_setCell_other _ _ _ _ (by simp [ne3]), hcr.2.1]; rfl
        · refine cv_some ?_; rw [World.cell?_drew, World.cell?_setCell_other _ _ _ _ (by simp [ne3]), hcr.2.2]; rfl
        · intro o; exact (World.frozen?_setCell ..).trans (hfr o)
        · intro j hj; rw [World.cell?_drew, World.cell?_setCell_other _ _ _ _ (by simp [ne2])]; exact HCL.out j hj
        · rw [← turnl_set huW hlt, ← HQ.out]; exact Bs.drew (Bs.store HB.out (turnl_len W n r k).symm q _)
        · exact (hbl.setCell (by have := hbl.size; simp; omega) _).drew
      · obtain rfl : k = W := by omega
        have HC2 : Hid (∀ j, j < k → wr.cell? ⟨w2.heap.size, 0 + j, none⟩ = some (.bool ((rot k n r).testBit j))) := fun j hj => by
          rw [Nat.zero_add]; exact Bs.cell HB.out (turnl_len k n r k).symm (turnl_num h1 hn huW hj)
        have HL2 : Hid (w2.heap.size < wr.heap.size) := (Bs.lt HB.out).2
        have hbs := hbl.size
        have hfr' : wr.frozen? ⟨w.heap.size + 1, 0, none⟩ = false ∧ wr.frozen? ⟨w.heap.size + 1, 1, none⟩ = false ∧ wr.frozen? ⟨w.heap.size + 1, 2, none⟩ = false := ⟨hfr 0, hfr 1, hfr 2⟩
        clear HB HCL
        go_wp2_with fail
        refine (HWD.out _ _ HC2.out HL2.out).mono ?_
        rintro e w4 ⟨rfl, hb4⟩
        have hb4' := below_step (w := w) hbl hb4
        have KF4 : w4.cell? ⟨w.heap.size + 1, 0, none⟩ = some (cv w4 ⟨w.heap.size + 1, 0, none⟩) ∧ w4.cell? ⟨w.heap.size + 1, 1, none⟩ = some (cv w4 ⟨w.heap.size + 1, 1, none⟩) ∧ w4.cell? ⟨w.heap.size + 1, 2, none⟩ = some (cv w4 ⟨w.heap.size + 1, 2, none⟩) ∧ (∀ o, w4.frozen? ⟨w.heap.size + 1, o, none⟩ = false) :=
          ⟨keep_some hb4 (by rw [hcr.1]; rfl), keep_some hb4 (by rw [hcr.2.1]; rfl), keep_some hb4 (by rw [hcr.2.2]; rfl), keep_frozen2 hb4 (by rw [hcr.1]; rfl) hfr⟩
        have hs4 := hb4'.size
        clear hb4 hcr hfr hfr' hca
        go_wp2_with fail
        refine bodyPost_ret (v := .tuple #[.agg #[.int .i64 k, .int .u64 (LO (rot k n r)), .int .u64 (HI (rot k n r))], .int .i64 0]) (by simp [results, Tryz.results57, go_sem, *]) rfl ?_
        exact ⟨rfl, by go_grown⟩
end Go.Proofs.YtnflphhckgeneaaGreat
