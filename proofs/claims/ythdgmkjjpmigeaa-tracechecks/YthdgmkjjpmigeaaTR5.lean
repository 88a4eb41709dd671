/- Contracts (traces): numbersOf. -/
import Derived.Test.YthdgmkjjpmigeaaTR4
namespace Go.Proofs.Ythdgmkjjpmigeaa
open Go.RowKit
set_option linter.unusedSimpArgs false
set_option linter.unusedVariables false


theorem Is'.put {w : World} {B r n cap : Nat} {l : List Int} (h : Is' w B (.slice (some ⟨r, 0, none⟩) n cap) l) {j : Nat} (hj : j < l.length) : (∃ u, w.cell? ⟨r, j, none⟩ = some u) ∧ w.frozen? ⟨r, j, none⟩ = false ∧ ∀ x : Int, Is' (w.setCell ⟨r, j, none⟩ (.int .i64 x)) B (.slice (some ⟨r, 0, none⟩) n cap) (l.set j x) ∧ Below B w (w.setCell ⟨r, j, none⟩ (.int .i64 x)) := by
  rcases h.2 with ⟨e, -⟩ | ⟨g, cap', cur, e, hb, hg, hc, hm, hs, ht⟩
  · cases e
  · injection e with e1 e2 e3
    injection e1 with e1
    injection e1 with e1
    subst e1 e2 e3
    have hjs : j < cur.size := by rw [hs]; omega
    refine ⟨⟨_, cell_of hg j (Array.getElem?_eq_getElem hjs)⟩, by simp [World.frozen?, hg], fun x => ⟨⟨by simp, Or.inr ⟨r, cap, cur.setIfInBounds j (.int .i64 x), by rw [List.length_set], hb, heap_setCell_same w r j cur _ _ hg, by rw [List.length_set]; exact hc, hm, by simpa using hs, ?_⟩⟩, ⟨rfl, rfl, rfl, by simp, fun q hq => heap_setCell_other _ _ _ _ (show q ≠ r from fun e => by omega)⟩⟩⟩
    rw [List.length_set, Array.toList_setIfInBounds, List.take_set, ht, List.map_set]
theorem app_slice {w : World} {B sz n : Nat} {e : TypeId} {v : Value} {xs : List Value} (h : w.ownsRow B e sz v (n + 1) xs) : ∃ r cap, v = .slice (some ⟨r, 0, none⟩) (n + 1) cap := by
  rcases h.2 with ⟨-, h0⟩ | ⟨g, cap, cur, e1, -⟩
  · omega
  · exact ⟨g, cap, e1⟩
/-- The number of t bytes from place 4 j on. -/
def prt (b : List Int) (j : Nat) : Nat → Int
  | 0 => 0
  | t + 1 => prt b j t * 256 + b.getD (4 * j + t) 0
def stN (b : List Int) (n k : Nat) : List Int := (List.range n).map fun j => prt b j (min 4 (k - 4 * j))
/-- The numbers that bytes are. -/
def numsF (b : List Int) : List Int := (List.range (b.length / 4)).map fun j => prt b j 4
theorem stN_zero (b : List Int) (n : Nat) : stN b n 0 = List.replicate n 0 := by
  unfold stN
  rw [List.eq_replicate_iff]
  refine ⟨by simp, fun x hx => ?_⟩
  obtain ⟨j, -, rfl⟩ := List.mem_map.1 hx
  simp [prt]
theorem stN_len (b : List Int) (n k : Nat) : (stN b n k).length = n := by unfold stN; simp
theorem stN_at (b : List Int) {n k j : Nat} (h : j < n) : (stN b n k)[j]? = some (prt b j (min 4 (k - 4 * j))) := by
  unfold stN
  rw [List.getElem?_map, List.getElem?_range h]; rfl
theorem stN_step (b : List Int) {n k : Nat} (h : k / 4 < n) : stN b n (k + 1) = (stN b n k).set (k / 4) (prt b (k / 4) (k % 4) * 256 + b.getD k 0) := by
  refine List.ext_getElem? fun j => ?_
  by_cases hj : j < n
  · rw [stN_at b hj]
    by_cases e : j = k / 4
    · subst e
      rw [List.getElem?_set_self (by rw [stN_len]; exact hj)]
      rw [show min 4 (k + 1 - 4 * (k / 4)) = k % 4 + 1 by omega]
      show some (prt b (k / 4) (k % 4) * 256 + b.getD (4 * (k / 4) + k % 4) 0) = _
      rw [show 4 * (k / 4) + k % 4 = k by omega]
    · rw [List.getElem?_set_ne (fun h => e h.symm), stN_at b hj]
      rw [show min 4 (k + 1 - 4 * j) = min 4 (k - 4 * j) by omega]
  · rw [List.getElem?_eq_none (by rw [stN_len]; omega), List.getElem?_eq_none (by rw [List.length_set, stN_len]; omega)]
theorem stN_end {b : List Int} {n : Nat} (h : b.length = 4 * n) : stN b n b.length = numsF b := by
  unfold stN numsF
  rw [show b.length / 4 = n by omega]
  refine List.map_congr_left fun j hj => ?_
  have := List.mem_range.1 hj
  rw [show min 4 (b.length - 4 * j) = 4 by omega]
theorem getD_byte {b : List Int} (h : byts b) (j : Nat) : 0 ≤ b.getD j 0 ∧ b.getD j 0 < 256 := by
  by_cases hj : j < b.length
  · exact h _ (getD_in hj)
  · rw [List.getD_eq_getElem?_getD, List.getElem?_eq_none (by omega)]; decide
theorem prt_le {b : List Int} (h : byts b) (j : Nat) : ∀ t, 0 ≤ prt b j t ∧ prt b j t < 256 ^ t
  | 0 => by simp [prt]
  | t + 1 => by
    have h1 := prt_le h j t
    have h2 := getD_byte h (4 * j + t)
    simp only [prt]
    rw [Int.pow_succ]
    omega
theorem or_byte {a x : Nat} (ha : a < 16777216) (hx : x < 256) : bits .or .i64 ((a : Int) * 256) (x : Int) = (a : Int) * 256 + (x : Int) := by
  have h0 : bits .or .i64 ((a : Int) * 256) (x : Int) = IntKind.i64.wrap (((BitVec.ofInt 64 ((a : Int) * 256) ||| BitVec.ofInt 64 (x : Int)).toNat : Nat) : Int) := rfl
  rw [h0, BitVec.toNat_or, BitVec.toNat_ofInt, BitVec.toNat_ofInt]
  have h1 : ((a : Int) * 256 % ((2 ^ 64 : Nat) : Int)).toNat = 2 ^ 8 * a := by omega
  have h2 : ((x : Int) % ((2 ^ 64 : Nat) : Int)).toNat = x := by omega
  rw [h1, h2, ← Nat.two_pow_add_eq_or_of_lt (by omega)]
  have : IntKind.i64.wrap ((2 ^ 8 * a + x : Nat) : Int) = ((2 ^ 8 * a + x : Nat) : Int) := by
    simp [IntKind.wrap, IntKind.signed, IntKind.bits]; omega
  rw [this]; omega
theorem Is'.made (w : World) {n : Nat} (hn : n ≤ 9223372036854775807) : Is' (w.alloc (.cells (madeCells #[.int .i64 0] n) 3)) w.heap.size (.slice (some ⟨w.heap.size, 0, none⟩) n n) (List.replicate n 0) := by
  obtain ⟨c, h1, h2, h3⟩ := World.rowIs_made w (.int .i64 0) n 3
  refine ⟨by simp, Or.inr ⟨w.heap.size, n, c, by rw [List.length_replicate], Nat.le_refl _, h1, by rw [List.length_replicate]; exact Nat.le_refl _, by unfold maxLen; omega, by omega, ?_⟩⟩
  refine List.ext_getElem? fun j => ?_
  rw [List.length_replicate]
  by_cases hj : j < n
  · rw [List.getElem?_take_of_lt (by omega), List.getElem?_map, List.getElem?_replicate, if_pos hj]
    have := h3 j hj
    simpa using this
  · rw [List.getElem?_eq_none (by rw [List.length_take]; simp; omega), List.getElem?_eq_none (by simp; omega)]
set_option maxRecDepth 20000 in
set_option maxHeartbeats 6400000 in
theorem numbersOf_any {w : World} {u : Value} {b : List Int} (h : Br w u b) (hl : b.length ≤ 5000000) {n : Nat} (hn : b.length = 4 * n) :
    Calls Try.prog 39 #[u] w fun ev w' => ∃ c, ev = .returned (.slice c n n) ∧ Is' w' w.heap.size (.slice c n n) (numsF b) ∧ Below w.heap.size w w' := by
  obtain ⟨a, c, rfl, hc⟩ := h.out
  have HB : Hid _ := h
  obtain ⟨m, hm⟩ : ∃ m, m = b.length := ⟨_, rfl⟩
  rw [← hm] at hn hl hc HB ⊢
  have hq : (m : Int).tdiv 4 = (n : Int) := by rw [Int.tdiv_eq_ediv_of_nonneg (by omega)]; omega
  have hnb : n ≤ 1250000 := by omega
  have hbb := h.byte
  have hmk : ∀ wx, (Instr.makeSlice 51 (.int .i64 (n : Int)) (.int .i64 (n : Int))).run Try.prog wx = .ok (.slice (some ⟨wx.heap.size, 0, none⟩) n n) (wx.alloc (.cells (madeCells #[.int .i64 0] n) 3)) := fun wx => run_make_row' (P := Try.prog) 51 3 (.int .i64 0) 8 underInts infoInt rfl .i64 .i64 n (by omega) (by omega) wx
  have HI0 : Hid _ := Is'.made w (n := n) (by omega)
  have HM : Hid (m = b.length ∧ m = 4 * n) := ⟨hm, hn⟩
  clear h hm hn
  go_enter Try.func39, Try.ntmps39
  go_wp2_with fail
  have HBY : Hid _ := hbb
  clear hbb hmk hq
  obtain ⟨g, hg⟩ : ∃ g, g = w.heap.size := ⟨_, rfl⟩
  rw [← hg] at HI0 ⊢
  have HG : Hid _ := hg
  obtain ⟨w1, hw1⟩ : ∃ w1, w1 = w.alloc (.cells (madeCells #[.int .i64 0] n) 3) := ⟨_, rfl⟩
  rw [← hw1] at HI0 ⊢
  have HB1 : Hid (Below g w w1) := by unfold Hid; rw [hw1, hg]; go_grown
  clear hw1 hg
  go_loopw [12] (fun i wr => ∃ k : Nat, k ≤ m ∧ i = .int .i64 (k : Int) ∧ Hid (Is' wr g (.slice (some ⟨g, 0, none⟩) n n) (stN b n k) ∧ Below g w wr)) (fun i wr => m - (intOf i).toNat)
  case atStart => exact ⟨0, Nat.zero_le _, rfl, by rw [stN_zero]; exact HI0.out, HB1.out⟩
  case round =>
    obtain ⟨k, hk, rfl, hH⟩ := hrel
    by_cases hlt : k < m
    · have hltI : (k : Int) < (m : Int) := by omega
      obtain ⟨q, hqd⟩ : ∃ q, q = k / 4 := ⟨_, rfl⟩
      have hqn : q < n := by have := HM.out.2; omega
      have hq : (k : Int).tdiv 4 = (q : Int) := by rw [Int.tdiv_eq_ediv_of_nonneg (by omega)]; omega
      have hqb : (q : Int) < (n : Int) := by omega
      obtain ⟨r, o, rfl, hck⟩ := HB.out.at' (by rw [← HG.out]; exact hH.out.2) (k := k) (by rw [← HM.out.1]; exact hlt)
      obtain ⟨x, hx⟩ : ∃ x : Nat, b.getD k 0 = (x : Int) := ⟨(b.getD k 0).toNat, by have := getD_byte HBY.out k; omega⟩
      have hx2 : x < 256 := by have := getD_byte HBY.out k; omega
      rw [hx] at hck
      obtain ⟨y, hy⟩ : ∃ y : Nat, prt b q (k % 4) = (y : Int) := ⟨(prt b q (k % 4)).toNat, by have := prt_le HBY.out q (k % 4); omega⟩
      have hy2 : y < 16777216 := by
        have h1 := (prt_le HBY.out q (k % 4)).2
        have h2 : (256 : Int) ^ (k % 4) ≤ 256 ^ 3 := by
          rcases (by omega : k % 4 = 0 ∨ k % 4 = 1 ∨ k % 4 = 2 ∨ k % 4 = 3) with e | e | e | e <;> rw [e] <;> decide
        have h3 : (256 : Int) ^ 3 = 16777216 := by decide
        omega
      have hor := or_byte hy2 hx2
      have hcy : wr.cell? ⟨g, q, none⟩ = some (.int .i64 (y : Int)) := by
        have hl2 : q < (stN b n k).length := by rw [stN_len]; exact hqn
        obtain ⟨r2, o2, e2, h2⟩ := hH.out.1.sr.at' (Below.refl _ _) hl2
        injection e2 with e2
        injection e2 with e3 e4
        subst e3 e4
        rw [Nat.zero_add] at h2
        rw [h2, getD_at (stN_at b hqn), show min 4 (k - 4 * q) = k % 4 by omega, hy]
      obtain ⟨-, hfz, hput⟩ := Is'.put hH.out.1 (j := q) (by rw [stN_len]; exact hqn)
      have HP : Hid (Is' (wr.setCell ⟨g, q, none⟩ (.int .i64 ((y : Int) * 256 + (x : Int)))) g (.slice (some ⟨g, 0, none⟩) n n) (stN b n (k + 1)) ∧ Below g w (wr.setCell ⟨g, q, none⟩ (.int .i64 ((y : Int) * 256 + (x : Int))))) := by
        obtain ⟨p1, p2⟩ := hput ((y : Int) * 256 + (x : Int))
        refine ⟨?_, hH.out.2.trans p2⟩
        rw [stN_step b (by rw [← hqd]; exact hqn), ← hqd, hy, hx]; exact p1
      clear hput hx hy hqd
      go_wp2_with fail
      refine ⟨⟨k + 1, by omega, by go_num, HP.out⟩, by simp [intOf]; omega⟩
    · obtain rfl : k = m := by omega
      have hltI : ¬ (k : Int) < (k : Int) := by omega
      have HE : Hid (Is' wr g (.slice (some ⟨g, 0, none⟩) n n) (numsF b)) := by
        have := hH.out.1
        rw [HM.out.1, stN_end (by rw [← HM.out.1]; exact HM.out.2)] at this
        exact this
      go_wp2_with fail
      go_ret
      exact ⟨_, rfl, by rw [← HG.out]; exact HE.out, by rw [← HG.out]; exact hH.out.2⟩
end Go.Proofs.Ythdgmkjjpmigeaa
