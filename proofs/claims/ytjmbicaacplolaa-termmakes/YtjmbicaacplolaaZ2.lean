/- Contracts (the document's graph): a graph is made; a variable; the variables. -/
import Derived.Test.YtjmbicaacplolaaZ1
import Derived.Test.YtjmbicaacplolaaY19
namespace Go.Proofs.Ytjmbicaacplolaa
open Go.RowKit
set_option linter.unusedSimpArgs false
set_option linter.unusedVariables false

set_option maxHeartbeats 800000 in
theorem rnew_any (most : Int) (w : World) :
    Calls Try.prog 11 #[.int .i64 most] w fun e w' => e = .returned (.pointer (some ⟨w.heap.size, 0, none⟩)) ∧ Below w.heap.size w w' ∧ Rg w' w.heap.size w.heap.size (.slice none 0 0) (roomOf most) [] := by
  have key : ∀ x : Int, x = (roomOf most : Int) → Rg (w.alloc (.cells #[.slice none 0 0, .int .i64 x] 41)) w.heap.size w.heap.size (.slice none 0 0) (roomOf most) [] := by
    rintro x rfl
    exact ⟨heap_alloc_new _ _, World.ownsRow_nil _ _ _ _, Nat.le_refl _, by unfold roomOf; omega, by simp⟩
  have HK : Hid _ := key
  clear key
  by_cases h1 : most < 1
  · have e : Hid ((1 : Int) = (roomOf most : Int)) := by unfold Hid roomOf; omega
    go_enter Try.func11, Try.ntmps11
    go_wp2_with fail
    go_ret
    exact ⟨rfl, by go_grown, HK.out _ e.out⟩
  · by_cases h2 : most ≤ 4096
    · have e : Hid (most = (roomOf most : Int)) := by unfold Hid roomOf; omega
      go_enter Try.func11, Try.ntmps11
      go_wp2_with fail
      go_ret
      exact ⟨rfl, by go_grown, HK.out _ e.out⟩
    · have e : Hid ((4096 : Int) = (roomOf most : Int)) := by unfold Hid roomOf; omega
      go_enter Try.func11, Try.ntmps11
      go_wp2_with fail
      go_ret
      exact ⟨rfl, by go_grown, HK.out _ e.out⟩

theorem varAt_first {ns : List Nd} {s : ByteArray} {k : Nat} {n : Nd} (hn : ns[k]? = some n) (h2 : n.op = 2) (hs : n.nm = s) (hb : ∀ (j : Nat) (m : Nd), j < k → ns[j]? = some m → ¬ (m.op = 2 ∧ m.nm = s)) : varAt ns s = (k : Int) + 1 := by
  obtain ⟨hk, e⟩ := List.getElem?_eq_some_iff.1 hn
  have hf : ns.findIdx? (fun m => decide (m.op = 2) && decide (m.nm = s)) = some k := by
    rw [List.findIdx?_eq_some_iff_getElem]
    refine ⟨hk, by simp [e, h2, hs], fun j hj => ?_⟩
    intro hq
    obtain ⟨h2', hjn⟩ : ns[j].op = 2 ∧ ns[j].nm = s := by simpa using hq
    exact hb j ns[j] hj (List.getElem?_eq_getElem (by omega)) ⟨h2', hjn⟩
  unfold varAt
  rw [hf]
theorem str_ne {a b : ByteArray} (h : ¬ a = b) (w : World) : (binOp .eql 9 (.string a) (.string b)).run Try.prog w = .ok (.bool false) w := by
  have h12 : ¬ a.data = b.data := fun e => h (Go.WideShapes.bytes_inj (by rw [e]))
  simp [go_sem, ByteArray.toList_eq, h12]
theorem str_eq (a : ByteArray) (w : World) : (binOp .eql 9 (.string a) (.string a)).run Try.prog w = .ok (.bool true) w := by simp [go_sem]

set_option maxHeartbeats 3200000 in
theorem rvar_any {w : World} {B g mo : Nat} {v : Value} {ns : List Nd} (h : Rg w B g v mo ns) (s : ByteArray) :
    Calls Try.prog 21 #[.pointer (some ⟨g, 0, none⟩), .string s] w fun e w' => e = .returned (.tuple #[.int .i64 (varAt ns s), .bool (!decide (varAt ns s = 0))]) ∧ w' = w := by
  have hlen := h.len
  have c0 := h.c0
  have HROW : Hid _ := h.row
  obtain ⟨ad, cap, rfl⟩ := h.sl
  obtain ⟨N, hN⟩ : ∃ N, N = ns.length := ⟨_, rfl⟩
  have HN : Hid _ := hN
  obtain ⟨R, hR⟩ : ∃ R, R = varAt ns s := ⟨_, rfl⟩
  have HR : Hid _ := hR
  rw [← hR]
  rw [← hN] at c0 hlen
  clear h hN hR
  go_enter Try.func21, Try.ntmps21
  go_wp2_with fail
  go_loop [6] (fun i => ∃ k : Nat, k ≤ N ∧ i = .int .i64 (k : Int) ∧ ∀ (j : Nat) (m : Nd), j < k → ns[j]? = some m → ¬ (m.op = 2 ∧ m.nm = s)) (fun i => N - (intOf i).toNat)
  case atStart => exact ⟨0, Nat.zero_le _, rfl, fun j m hj => by omega⟩
  case round =>
    obtain ⟨k, hk, rfl, hz⟩ := hrel
    have HZ : Hid _ := hz
    clear hz
    by_cases hlt : k < N
    · obtain ⟨n, hn⟩ : ∃ n, ns[k]? = some n := ⟨_, List.getElem?_eq_getElem (by rw [← HN.out]; exact hlt)⟩
      obtain ⟨r, cap', hv, hBr, hrl, hc⟩ := row_all HROW.out (by rw [← HN.out]; omega)
      obtain ⟨rfl, -, rfl⟩ : ad = some ⟨r, 0, none⟩ ∧ True ∧ cap = cap' := by simpa using hv
      have d0 : w.cell? ⟨r, k * 11, none⟩ = some (.int .i64 n.op) := hc k n hn 0 _ rfl
      have d10 : w.cell? ⟨r, k * 11 + 10, none⟩ = some (.string n.nm) := hc k n hn 10 _ rfl
      have hltI : (k : Int) < (N : Int) := by omega
      have HNN : Hid _ := hn
      clear hc hn hv
      by_cases h2 : n.op = 2
      · have z2 : (n.op == 2) = true := by simp [h2]
        by_cases h3 : n.nm = s
        · have HV : Hid (R = (k : Int) + 1) := by unfold Hid; rw [HR.out]; exact varAt_first HNN.out h2 h3 HZ.out
          have h3a : (n.nm.toList == s.toList) = true := by rw [h3]; simp
          have h3b : n.nm.toList = s.toList := by rw [h3]
          have h3s : ∀ wx, (binOp .eql 9 (.string n.nm) (.string s)).run Try.prog wx = .ok (.bool true) wx := fun wx => by rw [h3]; exact str_eq _ _
          clear h2 h3
          go_wp2_with fail
          refine bodyPost_ret (v := .tuple #[.int .i64 ((k : Int) + 1), .bool true]) (by simp [results, Try.results21, go_sem]) rfl ?_
          refine ⟨?_, rfl⟩
          rw [HV.out, show (!decide ((k : Int) + 1 = 0)) = true by simp; omega]
        · have h3s := str_ne h3
          have h3b : ¬ n.nm.toList = s.toList := fun e => h3 (Go.WideShapes.bytes_inj (by rw [ByteArray.toList_eq, ByteArray.toList_eq] at e; exact e))
          have h3a : (n.nm.toList == s.toList) = false := by simp [h3b]
          have HZ2 : Hid (∀ (j : Nat) (m : Nd), j < k + 1 → ns[j]? = some m → ¬ (m.op = 2 ∧ m.nm = s)) := fun j m hj hm => by
            by_cases e : j = k
            · subst e
              have := HNN.out.symm.trans hm
              cases this
              exact fun x => h3 x.2
            · exact HZ.out j m (by omega) hm
          clear h2 h3
          go_wp2_with fail
          go_round
          case rel => exact ⟨k + 1, by omega, by go_num, HZ2.out⟩
          case measure => simp [intOf]; omega
      · have z2 : (n.op == 2) = false := by simp [h2]
        have HZ2 : Hid (∀ (j : Nat) (m : Nd), j < k + 1 → ns[j]? = some m → ¬ (m.op = 2 ∧ m.nm = s)) := fun j m hj hm => by
          by_cases e : j = k
          · subst e
            have := HNN.out.symm.trans hm
            cases this
            exact fun x => h2 x.1
          · exact HZ.out j m (by omega) hm
        clear h2
        go_wp2_with fail
        go_round
        case rel => exact ⟨k + 1, by omega, by go_num, HZ2.out⟩
        case measure => simp [intOf]; omega
    · obtain rfl : k = N := by omega
      have hltI : ¬ (k : Int) < (k : Int) := by omega
      have HV : Hid (R = 0) := by
        unfold Hid
        rw [HR.out]
        refine varAt_none fun m hm h2 e => ?_
        obtain ⟨j, hj, rfl⟩ := List.getElem_of_mem hm
        exact HZ.out j _ (by rw [HN.out]; exact hj) (List.getElem?_eq_getElem hj) ⟨h2, e⟩
      go_wp2_with fail
      refine bodyPost_ret (v := .tuple #[.int .i64 0, .bool false]) (by simp [results, Try.results21, go_sem]) rfl ?_
      exact ⟨by rw [HV.out]; rfl, rfl⟩

set_option maxHeartbeats 6400000 in
theorem rvars_any {w : World} {B g mo : Nat} {v : Value} {ns : List Nd} (h : Rg w B g v mo ns) :
    Calls Try.prog 23 #[.pointer (some ⟨g, 0, none⟩)] w fun e w' => ∃ u, e = .returned u ∧ Is' w' w.heap.size u (vsF ns) ∧ Below w.heap.size w w' := by
  have hlen := h.len
  have c0 := h.c0
  have hg := h.lt
  have HROW : Hid _ := h.row
  obtain ⟨ad, cap, rfl⟩ := h.sl
  obtain ⟨t0, ht0, hz0, hz1, hz2⟩ := info_parts info3
  have HI0 : Hid (Try.prog.info? 3 = some t0 ∧ t0.zero = some (.int .i64 0) ∧ t0.size = 1 ∧ t0.bytes = 8) := ⟨ht0, hz0, hz1, hz2⟩
  obtain ⟨N, hN⟩ : ∃ N, N = ns.length := ⟨_, rfl⟩
  have HN : Hid _ := hN
  rw [← hN] at c0 hlen
  have HC0 : Hid _ := c0
  clear h ht0 hz0 hz1 hz2 hN c0
  go_enter Try.func23, Try.ntmps23
  go_wp2_with fail
  go_loopw [3, 4] (fun v i wr => ∃ k : Nat, k ≤ N ∧ i = .int .i64 (k : Int) ∧ Is' wr w.heap.size v (vsF (ns.take k)) ∧ Below w.heap.size w wr) (fun v i wr => N - (intOf i).toNat)
  case atStart =>
    exact ⟨0, Nat.zero_le _, rfl, World.ownsRow_nil _ _ _ _, Below.refl _ _⟩
  case round =>
    obtain ⟨k, hk, rfl, hI, hbl⟩ := hrel
    have HI : Hid _ := hI
    have c0 : wr.cell? ⟨g, 0, none⟩ = some (.slice ad N cap) := bel_cell hbl hg HC0.out
    clear hI
    by_cases hlt : k < N
    · obtain ⟨n, hn⟩ : ∃ n, ns[k]? = some n := ⟨_, List.getElem?_eq_getElem (by rw [← HN.out]; exact hlt)⟩
      obtain ⟨r, cap', hv, hBr, hrl, hc⟩ := row_all HROW.out (by rw [← HN.out]; omega)
      obtain ⟨rfl, -, rfl⟩ : ad = some ⟨r, 0, none⟩ ∧ True ∧ cap = cap' := by simpa using hv
      have d0 : wr.cell? ⟨r, k * 11, none⟩ = some (.int .i64 n.op) := bel_cell hbl hrl (hc k n hn 0 _ rfl)
      have HS := vsF_snoc hn
      have HLN : Hid ((vsF (ns.take k)).length ≤ 5000) := by unfold Hid; have := vsF_len (ns.take k); simp at this; omega
      have hltI : (k : Int) < (N : Int) := by omega
      clear hc hn hv
      by_cases h2 : n.op = 2
      · rw [if_pos h2] at HS
        have HSS : Hid _ := HS
        have z2 : (n.op == 2) = true := by simp [h2]
        clear h2 HS
        go_wp2_with (at_builtin; refine wpList_append_own_at _ rfl _ _ 45 rfl w.heap.size 3 t0 (.int .i64 0) 1 8 under45 HI0.out.1 HI0.out.2.1 HI0.out.2.2.1 HI0.out.2.2.2 rfl (by decide) _ _ _ rfl (row_kept HI.out (fun _ hq => heap_alloc_old _ _ hq)) ⟨wr.heap.size, 0, none⟩ 1 1 [.int .i64 ((k : Int) + 1)] rfl rfl (cell_one_new _ _ _) (ones [(k : Int) + 1]) (by have := HLN.out; unfold maxLen; omega) (by have := HLN.out; omega) (by have := hbl.size; simp; omega) ?_; intro v1 w1 hown hgrow hnil hat)
        have hrow : ∀ q, u3.ownBlock = some q → w.heap.size ≤ q := fun q hq => (HI.out.lt q hq).1
        have HI1 : Hid (Is' w1 w.heap.size v1 (vsF (ns.take (k + 1)))) := by
          unfold Hid Is'
          rw [HSS.out, List.map_append, List.length_append]
          exact hown
        have hb1 : Below w.heap.size w w1 := low_grown hbl hbl.size hgrow hrow
        clear hown hgrow hnil hat hrow HI
        go_wp2_with fail
        exact ⟨⟨k + 1, by omega, by go_num, HI1.out, hb1⟩, by simp [intOf]; omega⟩
      · rw [if_neg h2, List.append_nil] at HS
        have HSS : Hid _ := HS
        have z2 : (n.op == 2) = false := by simp [h2]
        clear h2 HS
        go_wp2_with fail
        exact ⟨⟨k + 1, by omega, by go_num, by rw [HSS.out]; exact HI.out, hbl⟩, by simp [intOf]; omega⟩
    · obtain rfl : k = N := by omega
      have hltI : ¬ (k : Int) < (k : Int) := by omega
      have HF : Hid (Is' wr w.heap.size u3 (vsF ns)) := by have h := HI.out; rw [HN.out, List.take_length] at h; exact h
      clear HI
      go_wp2_with fail
      go_ret
      exact ⟨_, rfl, HF.out, hbl⟩

set_option maxHeartbeats 3200000 in
theorem vars_nil {w : World} {B g mi mv mo : Nat} {v : Value} (h : Gr w B g mi mv v mo []) :
    Calls Try.prog 22 #[.pointer (some ⟨g, 0, none⟩)] w fun e w' => ∃ u, e = .returned u ∧ Is' w' w.heap.size u (vsF []) ∧ Below w.heap.size w w' := by
  have c1 := h.c1
  obtain ⟨ad, cap, rfl⟩ := h.sl
  have c1' : w.cell? ⟨g, 1, none⟩ = some (.slice ad 0 cap) := c1
  clear h c1
  go_enter Try.func22, Try.ntmps22
  go_wp2_with fail
  refine wp_loop_rounds 1 ?_
  rw [rounds_succ]
  go_wp2_with fail
  go_ret
  exact ⟨_, rfl, World.ownsRow_nil _ _ _ _, Below.refl _ _⟩
end Go.Proofs.Ytjmbicaacplolaa
