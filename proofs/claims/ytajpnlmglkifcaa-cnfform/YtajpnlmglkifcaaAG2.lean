/- Contracts (aig): the small ones. -/
import Derived.Test.YtajpnlmglkifcaaAG1
import Derived.WalkSmall
namespace Go.Proofs.Ytajpnlmglkifcaa
open Go.RowKit
set_option linter.unusedSimpArgs false
set_option linter.unusedVariables false

theorem below_step {w W w1 : World} (h : Below w.heap.size w W) (hb : Below W.heap.size W w1) : Below w.heap.size w w1 := h.trans (hb.mono h.size)
theorem keep_cell {W w1 : World} (hb : Below W.heap.size W w1) {a : Addr} {v : Value} (h : W.cell? a = some v) : w1.cell? a = some v := by
  rw [hb.cell (World.block_lt_of_cell? _ _ h)]; exact h
theorem xor_one (n : Nat) : n ^^^ 1 = n + 1 - 2 * (n % 2) := by
  have h1 : (n ^^^ 1) / 2 = n / 2 := by rw [Nat.xor_div_two]; simp
  have h2 : (n ^^^ 1) % 2 = (n % 2 + 1) % 2 := by
    have := Nat.mod_two_eq_zero_or_one n
    have h3 : (n ^^^ 1) % 2 = (n % 2 ^^^ 1 % 2) := by
      have := @Nat.xor_mod_two_pow n 1 1
      simpa using this
    rw [h3]
    rcases this with e | e <;> rw [e] <;> rfl
  omega
theorem xor_int {a : Int} (h1 : -9223372036854775808 ≤ a) (h2 : a ≤ 9223372036854775807) : wrap64 (((BitVec.ofInt 64 a ^^^ BitVec.ofInt 64 1).toNat : Nat) : Int) = tu a := by
  rw [BitVec.toNat_xor, show (BitVec.ofInt 64 1).toNat = 1 from rfl, xor_one, BitVec.toNat_ofInt]
  unfold tu wrap64
  have e64 : ((2 ^ 64 : Nat) : Int) = 18446744073709551616 := rfl
  rw [e64]
  omega

theorem bits_xor (a b : Int) : bits .xor .i64 a b = wrap64 (((BitVec.ofInt 64 a ^^^ BitVec.ofInt 64 b).toNat : Nat) : Int) := by
  have h : bits .xor .i64 a b = IntKind.i64.wrap (((BitVec.ofInt 64 a ^^^ BitVec.ofInt 64 b).toNat : Nat) : Int) := rfl
  rw [h, IntKind.wrap_i64]
  unfold wrap64
  rfl
theorem underArr : Try.prog.underlying 72 = some (.array 2 3) := by kernel_rfl
theorem underInt : Try.prog.underlying 3 = some (.int .i64) := by kernel_rfl
theorem int_eq (d : Nat) (x y : Int) (w : World) : (Op.equalIn (d + 1) 3 (.int .i64 x) (.int .i64 y)).run Try.prog w = .ok (x == y) w := by
  simp only [Op.equalIn, Sem.run_bind, run_underlying underInt, Result.andThen_ok]
  rfl
theorem arr_eqd (d : Nat) (a b c e : Int) (w : World) : (Op.equalIn (d + 2) 72 (.agg #[.int .i64 a, .int .i64 b]) (.agg #[.int .i64 c, .int .i64 e])).run Try.prog w = .ok (a == c && b == e) w := by
  obtain ⟨i, hi, -⟩ := info_any infoInt
  rw [run_equalIn_array (P := Try.prog) w (d + 1) _ _ underArr hi, show Try.prog.cellsOf 3 = 1 by kernel_rfl]
  simp only [List.range_succ, List.range_zero, List.nil_append, List.cons_append, Op.eqItems]
  have p0 : ∀ (x y : Int) w, (part 3 #[.int .i64 x, .int .i64 y] (0 * 1)).run Try.prog w = .ok (.int .i64 x) w := fun x y w => by kernel_rfl
  have p1 : ∀ (x y : Int) w, (part 3 #[.int .i64 x, .int .i64 y] (1 * 1)).run Try.prog w = .ok (.int .i64 y) w := fun x y w => by kernel_rfl
  have p2 := int_eq d
  simp only [Sem.run_bind, p0, p1, p2, Result.andThen_ok]
  cases a == c <;> simp [p0, p1, p2, Result.andThen]
  by_cases q : b = e <;> simp [q]
theorem arr_eq (a b c e : Int) (w : World) : (Op.equalIn 10000 72 (.agg #[.int .i64 a, .int .i64 b]) (.agg #[.int .i64 c, .int .i64 e])).run Try.prog w = .ok (a == c && b == e) w := arr_eqd 9998 a b c e w

theorem node_any (l : Nat) (w : World) :
    Calls Try.prog 34 #[.int .i64 (l : Int)] w fun e w' => e = .returned (.int .i64 ((l / 2 : Nat) : Int)) ∧ w' = w := by
  go_enter Try.func34, Try.ntmps34
  go_wp2_with fail
  go_ret
  exact ⟨rfl, rfl⟩
theorem turn_any {a : Int} (h1 : -9223372036854775808 ≤ a) (h2 : a ≤ 9223372036854775807) (w : World) :
    Calls Try.prog 47 #[.int .i64 a] w fun e w' => e = .returned (.int .i64 (tu a)) ∧ w' = w := by
  have H : Hid _ := xor_int h1 h2
  go_enter Try.func47, Try.ntmps47
  go_wp2_with fail
  go_ret
  exact ⟨congrArg (fun x => Ending.returned (.int .i64 x)) (H.out.symm ▸ (bits_xor a 1)), rfl⟩
theorem isAnd_any (k : Kd) (w : World) :
    Calls Try.prog 35 #[kval k] w fun e w' => e = .returned (.bool (isK k)) ∧ Below w.heap.size w w' := by
  obtain ⟨a, b⟩ := k
  unfold kval
  dsimp only
  have HE := arr_eq (a : Int) (b : Int) 0 0
  go_enter Try.func35, Try.ntmps35
  go_wp2_with fail
  go_ret
  refine ⟨?_, by go_grown⟩
  have e : isK (a, b) = (!(a : Int) == 0 || !(b : Int) == 0) := by
    unfold isK
    by_cases h1 : a = 0 <;> by_cases h2 : b = 0 <;> simp [h1, h2]
  rw [e]
  rfl
theorem nodes_any {w : World} {F : Nat → Prop} {g mo : Nat} {ks : List Kd} (h : Gr w F g mo ks) :
    Calls Try.prog 16 #[.pointer (some ⟨g, 0, none⟩)] w fun e w' => e = .returned (.int .i64 ((ks.length : Int) - 1)) ∧ w' = w := by
  obtain ⟨m, v, u, hx, -⟩ := h
  have c1 := hx.c1
  have hr := hx.room
  have hm := hx.most
  have hp := hx.inv.pos
  obtain ⟨r, cap, rfl, -⟩ := hx.sl
  clear hx
  go_enter Try.func16, Try.ntmps16
  go_wp2_with fail
  go_ret
  exact ⟨rfl, rfl⟩

set_option maxHeartbeats 1600000 in
theorem has_any {w : World} {F : Nat → Prop} {g mo : Nat} {ks : List Kd} (h : Gr w F g mo ks) {q c : Nat} {l : List Int} (hl : Li w q 0 l) (hn : l.length ≤ 1000) :
    Calls Try.prog 33 #[.pointer (some ⟨g, 0, none⟩), .slice (some ⟨q, 0, none⟩) l.length c] w fun e w' => e = .returned (.bool (l.all (litB ks.length))) ∧ Below w.heap.size w w' := by
  obtain ⟨m, v, u, hx, -⟩ := h
  have c1 := hx.c1
  have hr := hx.room
  have hm := hx.most
  have hg := hx.lt
  obtain ⟨r, cap, rfl, -⟩ := hx.sl
  obtain ⟨n, en⟩ : ∃ n, n = l.length := ⟨_, rfl⟩
  obtain ⟨N, eN⟩ : ∃ N, N = ks.length := ⟨_, rfl⟩
  obtain ⟨R, eR⟩ : ∃ R, R = l.all (litB ks.length) := ⟨_, rfl⟩
  rw [← eR, ← en]
  rw [← eN] at hr c1 eR
  rw [← en] at hn
  have HR : Hid _ := eR
  have HN : Hid _ := en
  have HL : Hid _ := hl
  have HC : Hid _ := c1
  clear hx hl eR en eN c1
  have hq : ∀ j, j < n → q < w.heap.size := fun j hj => World.block_lt_of_cell? _ _ (HL.out j (by rw [← HN.out]; exact hj))
  go_enter Try.func33, Try.ntmps33
  go_wp2_with fail
  go_loopw [9] (fun i wr => ∃ k : Nat, k ≤ n ∧ i = .int .i64 (k : Int) ∧ (∀ j, j < k → litB N (l.getD j 0) = true) ∧ Below w.heap.size w wr) (fun i wr => n - (intOf i).toNat)
  case atStart => exact ⟨0, Nat.zero_le _, rfl, (fun j hj => by omega), Below.refl _ _⟩
  case round =>
    obtain ⟨k, hk, rfl, hz, hbl⟩ := hrel
    have HZ : Hid _ := hz
    clear hz
    by_cases hlt : k < n
    · have cc : wr.cell? ⟨g, 1, none⟩ = some (.slice (some ⟨r, 0, none⟩) N cap) := bel_cell hbl hg HC.out
      obtain ⟨s, hs⟩ : ∃ s, s = l.getD k 0 := ⟨_, rfl⟩
      have q1 := HL.out k (by rw [← HN.out]; exact hlt)
      rw [Nat.zero_add] at q1
      have hck : wr.cell? ⟨q, k, none⟩ = some (.int .i64 s) := by
        rw [hs, hbl.cell (p := ⟨q, k, none⟩) (World.block_lt_of_cell? _ _ q1)]; exact q1
      have HS : Hid _ := hs
      have b0 : (k : Int) < (n : Int) := by omega
      clear q1 hs
      by_cases h0 : s < 0
      · have HF : Hid (R = false) := by
          unfold Hid
          rw [HR.out, List.all_eq_false]
          refine ⟨s, ?_, by simp [litB]; omega⟩
          rw [HS.out, List.getD_eq_getElem?_getD, List.getElem?_eq_getElem (by rw [← HN.out]; exact hlt)]
          exact List.getElem_mem _
        go_wp2_with fail
        go_quiet (fail)
        go_wp2_with fail
        go_ret
        exact ⟨by rw [HF.out]; rfl, below_drewN hbl _⟩
      · obtain ⟨S, rfl⟩ : ∃ S : Nat, s = (S : Int) := ⟨s.toNat, by omega⟩
        have hd : decide ((S : Int) < 0) = false := by simp
        have HNO : Hid (∀ wx, Calls Try.prog 34 #[.int .i64 (S : Int)] wx fun e w' => e = .returned (.int .i64 ((S / 2 : Nat) : Int)) ∧ w' = wx) := fun wx => node_any S wx
        obtain ⟨T, hT⟩ : ∃ T, T = S / 2 := ⟨_, rfl⟩
        rw [← hT] at HNO
        by_cases h1 : (N : Int) ≤ (T : Int)
        · have HF : Hid (R = false) := by
            unfold Hid
            rw [HR.out, List.all_eq_false]
            refine ⟨S, ?_, by simp [litB]; omega⟩
            rw [HS.out, List.getD_eq_getElem?_getD, List.getElem?_eq_getElem (by rw [← HN.out]; exact hlt)]
            exact List.getElem_mem _
          clear hT
          go_wp2_with fail
          go_quiet ((go_at_call 34; refine Calls.quiet_of_same (HNO.out _)))
          go_wp2_with fail
          go_ret
          exact ⟨by rw [HF.out]; rfl, below_drewN hbl _⟩
        · have HF : Hid (litB N (l.getD k 0) = true) := by
            unfold Hid
            rw [← HS.out]; simp [litB]; omega
          have hd1 : decide ((N : Int) ≤ (T : Int)) = false := decide_eq_false h1
          clear hT
          go_wp2_with fail
          go_quiet ((go_at_call 34; refine Calls.quiet_of_same (HNO.out _)))
          go_wp2_with fail
          refine ⟨⟨k + 1, by omega, by go_num, fun j hj => ?_, below_drewN hbl _⟩, by simp [intOf]; omega⟩
          by_cases e : j = k
          · subst e; exact HF.out
          · exact HZ.out j (by omega)
    · obtain rfl : k = n := by omega
      have HF : Hid (R = true) := by
        unfold Hid
        rw [HR.out, List.all_eq_true]
        intro x hx
        obtain ⟨j, hj, rfl⟩ := List.getElem_of_mem hx
        have := HZ.out j (by rw [HN.out]; exact hj)
        rwa [List.getD_eq_getElem?_getD, List.getElem?_eq_getElem hj] at this
      go_wp2_with fail
      go_ret
      exact ⟨by rw [HF.out]; rfl, hbl⟩

/-- What Kids tells. -/
def kidF (ks : List Kd) (n : Int) : Int × Int × Bool := if 0 ≤ n then match ks[n.toNat]? with | some k => ((k.1 : Int), (k.2 : Int), isK k) | none => (0, 0, false) else (0, 0, false)
set_option maxHeartbeats 1600000 in
theorem kids_any {w : World} {F : Nat → Prop} {g mo : Nat} {ks : List Kd} (h : Gr w F g mo ks) (n : Int) :
    Calls Try.prog 52 #[.pointer (some ⟨g, 0, none⟩), .int .i64 n] w fun e w' => e = .returned (.tuple #[.int .i64 (kidF ks n).1, .int .i64 (kidF ks n).2.1, .bool (kidF ks n).2.2]) ∧ Below w.heap.size w w' := by
  obtain ⟨m, v, u, hx, -⟩ := h
  have c1 := hx.c1
  have hr := hx.room
  have hm := hx.most
  have hg := hx.lt
  obtain ⟨r, cap, rfl, hrl, -, hc⟩ := hx.sl
  by_cases h0 : n < 0
  · have e : kidF ks n = (0, 0, false) := by unfold kidF; rw [if_neg (by omega)]
    rw [e]
    clear hx hc e
    go_enter Try.func52, Try.ntmps52
    go_wp2_with fail
    refine bodyPost_ret (v := .tuple #[.int .i64 0, .int .i64 0, .bool false]) (by simp [results, Try.results52, go_sem]) rfl ?_
    exact ⟨rfl, by go_grown⟩
  · obtain ⟨j, rfl⟩ : ∃ j : Nat, n = (j : Int) := ⟨n.toNat, by omega⟩
    have hd0 : decide ((j : Int) < 0) = false := by simp
    by_cases h1 : j < ks.length
    · obtain ⟨k, hk⟩ : ∃ k, ks[j]? = some k := ⟨_, List.getElem?_eq_getElem h1⟩
      obtain ⟨d0, d1⟩ := hc j k hk
      have e : kidF ks (j : Int) = ((k.1 : Int), (k.2 : Int), isK k) := by unfold kidF; rw [if_pos (by omega), Int.toNat_natCast, hk]
      rw [e]
      have hb : (j : Int) < (ks.length : Int) := by omega
      have hd1 : decide ((ks.length : Int) ≤ (j : Int)) = false := decide_eq_false (by omega)
      have HA : Hid (∀ wx, Calls Try.prog 35 #[.agg #[.int .i64 (k.1 : Int), .int .i64 (k.2 : Int)]] wx fun e w' => e = .returned (.bool (isK k)) ∧ Below wx.heap.size wx w') := fun wx => isAnd_any k wx
      clear hx hc e hk
      obtain ⟨k1, k2⟩ := k
      dsimp only at d0 d1 HA ⊢
      obtain ⟨R, hR⟩ : ∃ R, R = isK (k1, k2) := ⟨_, rfl⟩
      rw [← hR] at HA ⊢
      clear hR
      obtain ⟨N, hN⟩ : ∃ N, N = ks.length := ⟨_, rfl⟩
      rw [← hN] at c1 hb hd1 hr h1
      clear hN
      go_enter Try.func52, Try.ntmps52
      go_wp2_with fail
      go_region_held3 (fun x => x.cell? ⟨w.heap.size, 0, none⟩ = some (.int .i64 (k1 : Int)) ∧ x.cell? ⟨w.heap.size, 1, none⟩ = some (.int .i64 (k2 : Int)) ∧ Below w.heap.size w x)
        ((first | (obtain ⟨q0, q1, q2⟩ := ‹_ ∧ _ ∧ _›; with_reducible exact ⟨keep_cell hb q0, keep_cell hb q1, below_step q2 hb⟩) | (refine ⟨?_, ?_, ?_⟩ <;> first | (simp [go_sem]; done) | go_grown)))
        ((go_at_call 35; refine (HA.out _).mono ?_; rintro e w1 ⟨rfl, hb⟩))
      obtain ⟨-, -, hBq⟩ := ‹_ ∧ _ ∧ _›
      go_wp2_with fail
      refine bodyPost_ret (v := .tuple #[.int .i64 (k1 : Int), .int .i64 (k2 : Int), .bool R]) (by simp [results, Try.results52, go_sem]) rfl ?_
      exact ⟨rfl, hBq⟩
    · have e : kidF ks (j : Int) = (0, 0, false) := by unfold kidF; rw [if_pos (by omega), Int.toNat_natCast, List.getElem?_eq_none (by omega)]
      rw [e]
      have hb : (ks.length : Int) ≤ (j : Int) := by omega
      clear hx hc e
      go_enter Try.func52, Try.ntmps52
      go_wp2_with fail
      refine bodyPost_ret (v := .tuple #[.int .i64 0, .int .i64 0, .bool false]) (by simp [results, Try.results52, go_sem]) rfl ?_
      exact ⟨rfl, by go_grown⟩
end Go.Proofs.Ytajpnlmglkifcaa
