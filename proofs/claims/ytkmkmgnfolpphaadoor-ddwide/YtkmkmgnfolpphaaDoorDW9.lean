/- Contracts (the law): less, where it says yes. -/
import Derived.Test.YtkmkmgnfolpphaaDoorDW8
namespace Go.Proofs.YtkmkmgnfolpphaaDoor
open Go.RowKit
set_option linter.unusedSimpArgs false
set_option linter.unusedVariables false

set_option maxRecDepth 20000 in
set_option maxHeartbeats 3200000 in
theorem lless_any {bs : List Nat} {x : Nat} (hx1 : 1 ≤ x) (hx9 : x ≤ 9) (hne : bs ++ [x] ≠ [1]) (hb : D10 bs) (hl : bs.length ≤ 1000) (w : World) :
    Calls Tryd.prog 27 #[.string (gS (bs ++ [x - 1])), .string (gS (bs ++ [x]))] w fun e w' => e = .returned (.bool true) ∧ Below w.heap.size w w' := by
  obtain ⟨n, hn⟩ : ∃ n, n = bs.length := ⟨_, rfl⟩
  obtain ⟨s, hs⟩ : ∃ s, s = gS (bs ++ [x]) := ⟨_, rfl⟩
  obtain ⟨t, ht⟩ : ∃ t, t = gS (bs ++ [x - 1]) := ⟨_, rfl⟩
  have hsz : s.size = n + 1 := by rw [hs, gS_size, List.length_append, hn]; rfl
  have hg : s.data[n]? = some (toB x) := by
    rw [hs, gS_get (by rw [List.length_append, hn]; simp), List.getD_eq_getElem?_getD, List.getElem?_append_right (by omega), hn]; simp
  obtain ⟨b, hb'⟩ : ∃ b : Int, b = ((toB x).toNat : Int) := ⟨_, rfl⟩
  have hb2 : b = 48 + (x : Int) := by rw [hb']; exact toB_nat x (by omega)
  have hix : ∀ wx, (Instr.index 9 (.string s) (.int .i64 (n : Int))).run Tryd.prog wx = .ok (.int .u8 b) wx := fun wx => by
    rw [run_index_string wx _ s .i64 (n : Int) Tryd.underlying9, dif_pos ⟨by omega, by omega⟩, idx_get hg, hb']
  obtain ⟨y, hy⟩ : ∃ y, y = x - 1 := ⟨_, rfl⟩
  obtain ⟨g1, hg1⟩ : ∃ g1, g1 = gS [y] := ⟨_, rfl⟩
  obtain ⟨g2, hg2⟩ : ∃ g2, g2 = gS bs := ⟨_, rfl⟩
  have hsl : ∀ wx, (Instr.slice 9 (.string ⟨#[48, 49, 50, 51, 52, 53, 54, 55, 56, 57]⟩) (some (.int .i64 (y : Int))) (some (.int .i64 (x : Int))) none).run Tryd.prog wx = .ok (.string g1) wx := fun wx => by
    rw [run_slice_string wx _ _ .i64 .i64 _ _ Tryd.underlying9 (by omega) (by omega) (by show _ ≤ ((10 : Nat) : Int); omega), hg1, ← dig_slice _ (by omega)]
    rw [Int.toNat_natCast, show (x : Int).toNat = y + 1 by omega]
  have hcut : ∀ wx, (Instr.slice 9 (.string s) none (some (.int .i64 (n : Int))) none).run Tryd.prog wx = .ok (.string g2) wx := fun wx => by
    rw [run_slice_string_to_if wx _ s .i64 (n : Int) Tryd.underlying9, if_pos ⟨by omega, by omega⟩, hs, hg2]
    unfold gS
    rw [ByteArray.extract_mk, Int.toNat_natCast, hn]; simp
  have hz : ¬ (9223372036854775807 < g2.size + g1.size) := by rw [hg1, hg2, gS_size, gS_size]; simp; omega
  have hG : g2 ++ g1 = t := by rw [hg1, hg2, ht, gS_app, hy]
  have hne1 : ¬ s = ⟨#[49]⟩ := fun e => hne (by
    have e3 : (bs ++ [x]).map toB = [1].map toB := by
      have h2 : s.data.toList = (⟨#[49]⟩ : ByteArray).data.toList := by rw [e]
      rw [hs] at h2; exact h2
    have h4 : (bs ++ [x]).length = 1 := by have := congrArg List.length e3; simpa using this
    obtain rfl : bs = [] := by
      rw [List.length_append] at h4; simp at h4; exact h4
    have h5 : toB x = toB 1 := by simpa using e3
    have h6 := toB_nat x (by omega)
    rw [h5] at h6
    have h7 := toB_nat 1 (by decide)
    have : x = 1 := by omega
    rw [this]; rfl)
  have hne2 : (s.toList == [49]) = false := by
    rw [beq_eq_false_iff_ne, ByteArray.toList_eq]
    intro e
    exact hne1 (ByteArray.ext (by rw [← Array.toArray_toList (xs := s.data), e]))
  have hnI : (n : Int) ≤ 1000 := by omega
  have hsub : b - 48 = (x : Int) := by omega
  have hsub2 : (x : Int) - 1 = (y : Int) := by omega
  have hbl : 48 ≤ b := by omega
  have hbh : b ≤ 57 := by omega
  have hx9I : (x : Int) ≤ 9 := by omega
  have hx1I : (1 : Int) ≤ (x : Int) := by omega
  have hw1 : IntKind.u8.wrap (x : Int) = (x : Int) := by rw [IntKind.wrap_u8]; omega
  have hw2 : IntKind.i64.wrap (x : Int) = (x : Int) := by rw [IntKind.wrap_i64]; omega
  have hw3 : IntKind.i64.wrap (y : Int) = (y : Int) := by rw [IntKind.wrap_i64]; omega
  have hn1 : ((n + 1 : Nat) : Int) - 1 = (n : Int) := by omega
  have hsI : (s.size : Int) - 1 = (n : Int) := by omega
  rw [← hs, ← ht]
  clear hs ht hg hb' hb2 hy hg1 hg2 hn hne hb hl hne1
  go_enter Tryd.func27, Tryd.ntmps27
  go_wp2_with fail
  go_region_held3 (fun _ => True) (trivial) (fail)
  all_goals
    go_wp2_with fail
    go_ret
    exact ⟨rfl, (Below.refl _ _).drew⟩
end Go.Proofs.YtkmkmgnfolpphaaDoor
