/- Contracts (the document's and-inverter graphs): Kids, Inputs. -/
import Derived.Test.YtdmochghcmeebaaBH3
import Derived.Test.YtdmochghcmeebaaAG11
namespace Go.Proofs.Ytdmochghcmeebaa
open Go.RowKit
set_option linter.unusedSimpArgs false
set_option linter.unusedVariables false

set_option maxHeartbeats 3200000 in
theorem rkids_any {w : World} {F : Nat → Prop} {g mo : Nat} {rs : List Kd} (h : Rg w F g mo rs) {n : Int} :
    Calls Try.prog 15 #[.pointer (some ⟨g, 0, none⟩), .int .i64 n] w fun e w' => e = .returned (.tuple #[.int .i64 (kidF ((0, 0) :: rs) n).1, .int .i64 (kidF ((0, 0) :: rs) n).2.1, .bool (kidF ((0, 0) :: rs) n).2.2]) ∧ Below w.heap.size w w' := by
  have hlen := h.len
  obtain ⟨v, hx, -⟩ := h
  have c0 := hx.c0
  have hg := hx.lt
  obtain ⟨va, vc, rfl, hcell⟩ := hx.sl
  clear hx
  by_cases h1 : n < 1
  · have e : kidF ((0, 0) :: rs) n = (0, 0, false) := by
      unfold kidF
      by_cases h0 : 0 ≤ n
      · rw [if_pos h0, show n.toNat = 0 by omega]; rfl
      · rw [if_neg h0]
    rw [e]
    clear e hcell
    go_enter Try.func15, Try.ntmps15
    go_wp2_with fail
    refine bodyPost_ret (v := .tuple #[.int .i64 0, .int .i64 0, .bool false]) (by simp [results, Try.results15, go_sem]) rfl ?_
    exact ⟨rfl, Below.refl _ _⟩
  · have h1d : decide (n < 1) = false := decide_eq_false h1
    obtain ⟨j, rfl⟩ : ∃ j : Nat, n = (j : Int) + 1 := ⟨(n - 1).toNat, by omega⟩
    by_cases h2 : j < rs.length
    · obtain ⟨k, hk⟩ : ∃ k, rs[j]? = some k := ⟨_, List.getElem?_eq_getElem h2⟩
      obtain ⟨r, rfl, hrl, hc⟩ := hcell.resolve_left (fun e => by rw [e] at h2; simp at h2)
      obtain ⟨d0, d1, d2⟩ := hc j k hk
      have e : kidF ((0, 0) :: rs) ((j : Int) + 1) = ((k.1 : Int), (k.2 : Int), isK k) := by
        unfold kidF
        rw [if_pos (by omega), show ((j : Int) + 1).toNat = j + 1 by omega, List.getElem?_cons_succ, hk]
      rw [e]
      obtain ⟨N, eN⟩ : ∃ N, N = rs.length := ⟨_, rfl⟩
      rw [← eN] at c0 h2 hlen
      have b1 : (j : Int) < (N : Int) := by omega
      have b2 : (j : Int) + 1 ≤ (N : Int) := by omega
      have b2d : decide ((N : Int) < (j : Int) + 1) = false := decide_eq_false (by omega)
      have b3 : (j : Int) < 40000 := by omega
      have h1' : (1 : Int) ≤ (j : Int) + 1 := by omega
      clear hc e hk eN h1
      obtain ⟨k1, k2⟩ := k
      dsimp only at d0 d1 d2 ⊢
      by_cases h00 : ((k1, k2) : Kd) = (0, 0)
      · have e1 : k1 = 0 := congrArg Prod.fst h00
        have e2 : k2 = 0 := congrArg Prod.snd h00
        rw [decide_eq_true h00] at d2
        subst e1
        subst e2
        rw [show isK (0, 0) = false from rfl, show ((0 : Nat) : Int) = 0 from rfl]
        clear h00 d0 d1
        go_enter Try.func15, Try.ntmps15
        go_wp2_with fail
        refine bodyPost_ret (v := .tuple #[.int .i64 0, .int .i64 0, .bool false]) (by simp [results, Try.results15, go_sem]) rfl ?_
        exact ⟨rfl, Below.refl _ _⟩
      · rw [decide_eq_false h00] at d2
        rw [show isK (k1, k2) = true by unfold isK; rw [decide_eq_false h00]; rfl]
        clear h00
        go_enter Try.func15, Try.ntmps15
        go_wp2_with fail
        go_quiet (fail)
        go_wp2_with fail
        refine bodyPost_ret (v := .tuple #[.int .i64 (k1 : Int), .int .i64 (k2 : Int), .bool true]) (by simp [results, Try.results15, go_sem]) rfl ?_
        exact ⟨rfl, below_drewN (Below.refl _ _) _⟩
    · have e : kidF ((0, 0) :: rs) ((j : Int) + 1) = (0, 0, false) := by
        unfold kidF
        rw [if_pos (by omega), show ((j : Int) + 1).toNat = j + 1 by omega, List.getElem?_cons_succ, List.getElem?_eq_none (by omega)]
      rw [e]
      obtain ⟨N, eN⟩ : ∃ N, N = rs.length := ⟨_, rfl⟩
      rw [← eN] at c0 h2 hlen
      have b2 : (N : Int) < (j : Int) + 1 := by omega
      have h1' : (1 : Int) ≤ (j : Int) + 1 := by omega
      clear e hcell eN h1 h2
      go_enter Try.func15, Try.ntmps15
      go_wp2_with fail
      refine bodyPost_ret (v := .tuple #[.int .i64 0, .int .i64 0, .bool false]) (by simp [results, Try.results15, go_sem]) rfl ?_
      exact ⟨rfl, Below.refl _ _⟩

set_option maxRecDepth 20000 in
set_option maxHeartbeats 6400000 in
theorem rinputs_any {w : World} {F : Nat → Prop} {g mo : Nat} {rs : List Kd} (h : Rg w F g mo rs) :
    Calls Try.prog 22 #[.pointer (some ⟨g, 0, none⟩)] w fun e w' => ∃ u, e = .returned u ∧ Is' w' w.heap.size u (insL ((0, 0) :: rs)) ∧ Below w.heap.size w w' := by
  have hlen := h.len
  obtain ⟨v, hx, -⟩ := h
  have HC0 : Hid _ := hx.c0
  have hg := hx.lt
  obtain ⟨va, vc, rfl, hcell⟩ := hx.sl
  have HCE : Hid _ := hcell
  obtain ⟨N, eN⟩ : ∃ N, N = rs.length := ⟨_, rfl⟩
  have HN : Hid _ := eN
  rw [← eN] at HC0 hlen
  obtain ⟨t0, ht0, hz0, hz1, hz2⟩ := info_any infoInt
  have HI0 : Hid (Try.prog.info? 3 = some t0 ∧ t0.zero = some (.int .i64 0) ∧ t0.size = 1 ∧ t0.bytes = 8) := ⟨ht0, hz0, hz1, hz2⟩
  clear hx hcell eN ht0 hz0 hz1 hz2
  go_enter Try.func22, Try.ntmps22
  go_wp2_with fail
  go_loopw [3, 4] (fun v i wr => ∃ k : Nat, k ≤ N ∧ i = .int .i64 (k : Int) ∧ Is' wr w.heap.size v (insL ((0, 0) :: rs.take k)) ∧ Below w.heap.size w wr) (fun v i wr => N - (intOf i).toNat)
  case atStart => exact ⟨0, Nat.zero_le _, rfl, World.ownsRow_nil _ _ _ _, Below.refl _ _⟩
  case round =>
    obtain ⟨k, hk, rfl, hI, hbl⟩ := hrel
    have HI : Hid _ := hI
    clear hI
    have hk2 : (k : Int) < 40000 := by omega
    have hsz := hbl.size
    have c0 : wr.cell? ⟨g, 0, none⟩ = some (.slice va N vc) := bel_cell hbl hg HC0.out
    by_cases hkN : k < N
    · obtain ⟨kd, hkd⟩ : ∃ kd, rs[k]? = some kd := ⟨_, List.getElem?_eq_getElem (by rw [← HN.out]; exact hkN)⟩
      obtain ⟨r, rfl, hrl, hc⟩ := HCE.out.resolve_left (fun e => by have := HN.out; rw [e] at this; simp at this; omega)
      have d2 := keep_cell hbl (hc k kd hkd).2.2
      have hkI : (k : Int) < (N : Int) := by omega
      have HTK : Hid (insL ((0, 0) :: rs.take (k + 1)) = insL ((0, 0) :: rs.take k) ++ (if kd = (0, 0) ∧ (((0, 0) : Kd) :: rs.take k).length ≠ 0 then [2 * ((((0, 0) : Kd) :: rs.take k).length : Int)] else [])) := by
        unfold Hid
        rw [List.take_add_one, hkd, Option.toList_some, ← List.cons_append, insL_snoc]
      have HLE : Hid ((((0, 0) : Kd) :: rs.take k).length = k + 1) := by unfold Hid; rw [List.length_cons, List.length_take, ← HN.out]; omega
      have HLI : Hid ((insL ((0, 0) :: rs.take k)).length ≤ 40000) := by have := insL_len ((0, 0) :: rs.take k); rw [HLE.out] at this; unfold Hid; omega
      rw [HLE.out] at HTK
      clear hc hkd HLE
      by_cases h00 : kd = (0, 0)
      · rw [decide_eq_true h00] at d2
        rw [if_pos ⟨h00, by omega⟩] at HTK
        clear h00
        go_wp2_with (at_builtin; refine wpList_append_own_at _ rfl _ _ 43 rfl w.heap.size 3 t0 (.int .i64 0) 1 8 underInts HI0.out.1 HI0.out.2.1 HI0.out.2.2.1 HI0.out.2.2.2 rfl (by decide) _ _ _ rfl (row_kept HI.out (fun _ hq => heap_alloc_old _ _ hq)) ⟨wr.heap.size, 0, none⟩ 1 1 [.int .i64 (2 * ((k : Int) + 1))] rfl rfl (cell_one_new _ _ _) (ones [2 * ((k : Int) + 1)]) (by have := HLI.out; unfold maxLen; omega) (by have := HLI.out; omega) (by simp; omega) ?_; intro v1 w3 hown hgrow hnil hat)
        have hrow : ∀ q, u3.ownBlock = some q → w.heap.size ≤ q := fun q hq => (World.ownsRow.lt HI.out q hq).1
        have hb3 : Below w.heap.size w w3 := low_grown hbl hsz hgrow hrow
        refine ⟨⟨k + 1, by omega, by go_num, ?_, hb3⟩, by simp [intOf]; omega⟩
        unfold Is'
        rw [HTK.out, List.map_append, List.length_append]
        exact hown
      · rw [decide_eq_false h00] at d2
        rw [if_neg (fun q => h00 q.1), List.append_nil] at HTK
        clear h00
        go_wp2_with fail
        exact ⟨⟨k + 1, by omega, by go_num, by rw [HTK.out]; exact HI.out, hbl⟩, by simp [intOf]; omega⟩
    · obtain rfl : k = N := by omega
      have hkd : decide ((k : Int) < (k : Int)) = false := decide_eq_false (by omega)
      have HF : Hid (Is' wr w.heap.size u3 (insL ((0, 0) :: rs))) := by have := HI.out; rw [HN.out, List.take_length] at this; exact this
      obtain ⟨a1, c1, rfl, -⟩ := Is'.any HF.out
      clear HI HCE
      go_wp2_with fail
      go_ret
      exact ⟨_, rfl, HF.out, hbl⟩
end Go.Proofs.Ytdmochghcmeebaa
