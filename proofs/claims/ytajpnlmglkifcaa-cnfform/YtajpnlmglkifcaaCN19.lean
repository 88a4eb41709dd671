/- Contracts (the document's clauses, the law's run): Vars, small. -/
import Derived.Test.YtajpnlmglkifcaaCN17
namespace Go.Proofs.Ytajpnlmglkifcaa
open Go.RowKit
set_option linter.unusedSimpArgs false
set_option linter.unusedVariables false

set_option maxRecDepth 20000 in
set_option maxHeartbeats 1600000 in
theorem vars13_any {w : World} {B : Nat} {v : Value} {us : List Value} {C : List (List Int)} (h : Ls w B v us C) (hc : ∀ c ∈ C, okC c ∧ c.length ≤ 1000) (hl : C.length ≤ 90000) :
    Calls Try.prog 31 #[v, .int .i64 13] w fun ev w' => ∃ N : Int, ev = .returned (.int .i64 N) ∧ 0 ≤ N ∧ N ≤ 14 ∧ Below w.heap.size w w' := by
  obtain ⟨a, cap, rfl, hat⟩ := h.sl
  have HAT : Hid _ := hat
  have HC : Hid _ := hc
  have H : Hid _ := h
  obtain ⟨m, hm⟩ : ∃ m, m = C.length := ⟨_, rfl⟩
  have HM : Hid _ := hm
  rw [← hm] at hl ⊢
  clear hat hc hm h
  go_enter Try.func31, Try.ntmps31
  go_wp2_with fail
  go_loopw [5, 6] (fun u i wr => ∃ (k : Nat) (N : Int), k ≤ m ∧ i = .int .i64 (k : Int) ∧ u = .int .i64 N ∧ 0 ≤ N ∧ N ≤ 13 ∧ Hid (Below w.heap.size w wr)) (fun u i wr => m - (intOf i).toNat)
  case atStart => exact ⟨0, 0, Nat.zero_le _, rfl, rfl, by omega, by omega, Below.refl _ _⟩
  case round =>
    obtain ⟨k, N, hk, rfl, rfl, hN0, hN1, hH⟩ := hrel
    by_cases hkm : k < m
    · obtain ⟨x, hxk⟩ : ∃ x, C[k]? = some x := ⟨_, List.getElem?_eq_getElem (by rw [← HM.out]; exact hkm)⟩
      obtain ⟨u, huk⟩ : ∃ u, us[k]? = some u := ⟨_, List.getElem?_eq_getElem (by rw [H.out.len, ← HM.out]; exact hkm)⟩
      obtain ⟨r, rfl, -, -, hcell⟩ := HAT.out.resolve_left (fun e => by rw [e] at huk; simp at huk)
      have dx : wr.cell? ⟨r, k, none⟩ = some u := keep_cell hH.out (hcell k u huk)
      have hxc := HC.out x (List.mem_of_getElem? hxk)
      have hcu := (H.out.cl k u x huk hxk).1
      obtain ⟨au, cu, rfl, -, hq5, hau⟩ := (hcu.rl (by omega)).below hH.out
      have HAU : Hid _ := hau
      have HXC : Hid _ := hxc.1
      obtain ⟨q, hq⟩ : ∃ q, q = x.length := ⟨_, rfl⟩
      have HQ : Hid _ := hq
      rw [← hq] at dx hq5
      have hkI : (k : Int) < (m : Int) := by omega
      obtain ⟨wq, ewq⟩ : ∃ wq, wq = wr := ⟨_, rfl⟩
      rw [← ewq] at hH HAU dx
      rw [← ewq]
      have hwr := hH.out.size
      clear hxk huk hcell hcu hau hxc hq ewq
      go_wp2_with fail
      go_loopw [5, 7] (fun u j wz => ∃ (t : Nat) (N : Int), t ≤ q ∧ j = .int .i64 (t : Int) ∧ u = .int .i64 N ∧ 0 ≤ N ∧ N ≤ 13 ∧ Hid (Below wq.heap.size wq wz)) (fun u j wz => q - (intOf j).toNat)
      case atStart => exact ⟨0, N, Nat.zero_le _, rfl, rfl, hN0, hN1, Below.refl _ _⟩
      case round =>
        clear hN0 hN1
        obtain ⟨t, N2, ht, rfl, rfl, hM0, hM1, hJ⟩ := hrel
        have ex : wr.cell? ⟨r, k, none⟩ = some (.slice au q cu) := keep_cell hJ.out dx
        have hb : Below w.heap.size w wr := hH.out.trans (hJ.out.mono hwr)
        by_cases htq : t < q
        · obtain ⟨y, hyk⟩ : ∃ y, x[t]? = some y := ⟨_, List.getElem?_eq_getElem (by rw [← HQ.out]; exact htq)⟩
          obtain ⟨r2, rfl, -, hLi⟩ := HAU.out.resolve_left (fun e => by rw [e] at hyk; simp at hyk)
          have dy : wr.cell? ⟨r2, t, none⟩ = some (.int .i64 y) := by
            have h1 := hLi t (by rw [← HQ.out]; exact htq)
            rw [Nat.zero_add, List.getD_eq_getElem?_getD, hyk] at h1
            exact keep_cell hJ.out h1
          obtain ⟨-, hy1, hy2⟩ := HXC.out y (List.mem_of_getElem? hyk)
          have htI : (t : Int) < (q : Int) := by omega
          clear hyk hLi
          by_cases g1 : 13 < y
          · go_wp2_with fail
            go_ret
            exact ⟨_, rfl, by omega, by omega, hb⟩
          by_cases g2 : y < -13
          · go_wp2_with fail
            go_ret
            exact ⟨_, rfl, by omega, by omega, hb⟩
          · go_wp2_with fail
            refine ⟨⟨t + 1, _, by omega, by go_num, rfl, ?_, ?_, hJ.out⟩, by simp [intOf]; omega⟩
            · omega
            · omega
        · obtain rfl : t = q := by omega
          have htI : ¬ (t : Int) < (t : Int) := by omega
          go_wp2_with fail
          exact ⟨⟨k + 1, N2, by omega, by go_num, rfl, hM0, hM1, hb⟩, by simp [intOf]; omega⟩
    · obtain rfl : k = m := by omega
      have hkI : ¬ (k : Int) < (k : Int) := by omega
      have hb := hH.out
      go_wp2_with fail
      go_ret
      exact ⟨N, rfl, by omega, by omega, hb⟩
set_option maxRecDepth 20000 in
set_option maxHeartbeats 800000 in
theorem small_any {w : World} {B X : Nat} {v : Value} {us : List Value} {C : List (List Int)} (hX : w.cell? ⟨X, 2, none⟩ = some v) (h : Ls w B v us C) (hc : ∀ c ∈ C, okC c ∧ c.length ≤ 1000) (hl : C.length ≤ 90000) :
    Calls Try.prog 8 #[.pointer (some ⟨X, 0, none⟩)] w fun ev w' => ∃ (N : Int) (ok : Bool), ev = .returned (.tuple #[.int .i64 N, .bool ok]) ∧ 0 ≤ N ∧ N ≤ 14 ∧ (ok = true → N ≤ 13) ∧ Below w.heap.size w w' := by
  have HV : Hid _ := vars13_any h hc hl
  obtain ⟨a, cap, rfl, -⟩ := h.sl
  obtain ⟨m, hm⟩ : ∃ m, m = C.length := ⟨_, rfl⟩
  rw [← hm] at hX HV hl
  clear h hc hm
  go_enter Try.func8, Try.ntmps8
  go_wp2_with fail
  refine Calls.mono HV.out ?_
  rintro ev w2 ⟨N, rfl, h0, h14, hb⟩
  have dX : w2.cell? ⟨X, 2, none⟩ = some (.slice a m cap) := keep_cell hb hX
  clear hX HV
  by_cases h13 : N ≤ 13
  · have hd : decide (N ≤ 13) = true := decide_eq_true h13
    go_wp2_with fail
    go_quiet (fail)
    go_wp2_with fail
    go_ret2
    exact ⟨_, _, rfl, h0, h14, fun _ => h13, below_drewN hb _⟩
  · have hd : decide (N ≤ 13) = false := decide_eq_false h13
    go_wp2_with fail
    go_quiet (fail)
    go_wp2_with fail
    go_ret2
    exact ⟨_, false, rfl, h0, h14, (fun e => by cases e), below_drewN hb _⟩
end Go.Proofs.Ytajpnlmglkifcaa
