/- Contracts (clauses): the nodes without a variable. -/
import Derived.Test.YtajpnlmglkifcaaCN7
namespace Go.Proofs.Ytajpnlmglkifcaa
open Go.RowKit
set_option linter.unusedSimpArgs false
set_option linter.unusedVariables false

/-- The nodes of these literals that have no variable. -/
def nmL (V : Int → Option Int) (L : List Nat) : List Nat := (L.filter fun x => !(V ((x / 2 : Nat) : Int)).isSome).map (· / 2)
theorem nmL_snoc {V : Int → Option Int} {L : List Nat} {k x : Nat} (h : L[k]? = some x) : nmL V (L.take (k + 1)) = nmL V (L.take k) ++ (if (V ((x / 2 : Nat) : Int)).isSome then [] else [x / 2]) := by
  unfold nmL
  rw [List.take_add_one, h, List.filter_append, List.map_append]
  congr 1
  show ([x].filter fun x => !(V ((x / 2 : Nat) : Int)).isSome).map (· / 2) = _
  cases e : (V ((x / 2 : Nat) : Int)).isSome
  · rw [List.filter_cons_of_pos (by rw [e]; rfl)]; rfl
  · rw [List.filter_cons_of_neg (by rw [e]; decide)]; rfl
theorem nmL_len (V : Int → Option Int) (L : List Nat) (k : Nat) : (nmL V (L.take k)).length ≤ k := by
  unfold nmL
  rw [List.length_map]
  exact Nat.le_trans (List.length_filter_le _ _) (by rw [List.length_take]; omega)
set_option maxRecDepth 20000 in
set_option maxHeartbeats 12800000 in
theorem nameless_any {w : World} {e g mv mp B : Nat} {vars : Int} {V P : Int → Option Int} {u : Value} {L : List Nat}
    (hE : En w e g vars mv mp V P) (hL : Is' w B u (nats L)) (hl : L.length ≤ 90000) (hx : ∀ x ∈ L, x < 1000000) :
    Calls Try.prog 41 #[.pointer (some ⟨e, 0, none⟩), u] w fun ev w' => ∃ u', ev = .returned u' ∧ Is' w' w.heap.size u' (Lib.compact (nats (nmL V L))) ∧ Below w.heap.size w w' := by
  obtain ⟨ti, ht0, hz0, hz1, hz2⟩ := info_any infoInt
  have HI : Hid _ := (⟨ht0, hz0, hz1, hz2⟩ : Try.prog.info? 3 = some ti ∧ ti.zero = _ ∧ ti.size = 1 ∧ ti.bytes = 8)
  have HE : Hid (En w e g vars mv mp V P) := hE
  obtain ⟨n, hn⟩ : ∃ n, n = L.length := ⟨_, rfl⟩
  obtain ⟨au, cu, hu⟩ : ∃ a c, u = .slice a n c := by
    rcases hL.2 with ⟨e1, h0⟩ | ⟨g, cap, cur, e1, -⟩
    · rw [nats_len] at h0
      exact ⟨none, 0, by rw [e1, hn, h0]⟩
    · rw [nats_len] at e1
      exact ⟨_, _, by rw [e1, hn]⟩
  subst hu
  have HL : Hid (Is' w B (.slice au n cu) (nats L)) := hL
  have HN : Hid _ := hn
  have HX : Hid _ := hx
  have hel := hE.lt
  have hn9 : n ≤ 90000 := by omega
  clear hE hL hx hn ht0 hz0 hz1 hz2 hl
  go_enter Try.func41, Try.ntmps41
  go_wp2_with fail
  go_loopw [5, 12] (fun u5 i wr => ∃ k : Nat, k ≤ n ∧ i = .int .i64 (k : Int) ∧ Hid (Is' wr w.heap.size u5 (nats (nmL V (L.take k))) ∧ Below w.heap.size w wr)) (fun u5 i wr => n - (intOf i).toNat)
  case atStart => exact ⟨0, Nat.zero_le _, rfl, World.ownsRow_nil _ _ _ _, Below.refl _ _⟩
  case round =>
    obtain ⟨k, hk, rfl, hH⟩ := hrel
    have hnl := nmL_len V L k
    by_cases hlt : k < n
    · obtain ⟨x, hxk⟩ : ∃ x, L[k]? = some x := ⟨_, List.getElem?_eq_getElem (by rw [← HN.out]; exact hlt)⟩
      have hx6 := HX.out x (List.mem_of_getElem? hxk)
      obtain ⟨r, cap, hra, hBr, hcap, hLi⟩ := HL.out.li (by intro q; have := nats_len L; rw [q] at this; simp at this; have := HN.out; omega)
      have hra1 : au = some ⟨r, 0, none⟩ := by injection hra
      subst hra1
      have dx : wr.cell? ⟨r, k, none⟩ = some (.int .i64 (x : Int)) := by
        have h1 := hLi k (by rw [nats_len, ← HN.out]; exact hlt)
        rw [Nat.zero_add] at h1
        have e2 : (nats L).getD k 0 = (x : Int) := by
          unfold nats
          rw [List.getD_eq_getElem?_getD, List.getElem?_map, hxk]; rfl
        rw [e2] at h1
        exact bel_cell hH.out.2 (World.block_lt_of_cell? _ ⟨r, k, none⟩ h1) h1
      have HND : Hid (∀ wx, Calls Try.prog 38 #[.int .i64 (x : Int)] wx fun e w' => e = .returned (.int .i64 ((x / 2 : Nat) : Int)) ∧ w' = wx) := fun wx => cnode_any x wx
      have hEr := HE.out.below hH.out.2
      have c2 : wr.cell? ⟨e, 2, none⟩ = some (.map (some mv)) := cell_of hEr.hd 2 rfl
      have HSN : Hid _ := nmL_snoc (V := V) hxk
      have hq2 : ∀ j, (Instr.lookup 62 (.map (some mv)) (.int .i64 ((x / 2 : Nat) : Int)) true).run Try.prog (wr.drewN j) = .ok (.tuple #[.int .i64 ((V ((x / 2 : Nat) : Int)).getD 0), .bool (V ((x / 2 : Nat) : Int)).isSome]) (wr.drewN j) := fun j => (hEr.vs.kept (w' := wr.drewN j) (by rw [heap_drewN])).look2 (by unfold w64; omega)
      obtain ⟨q, hq⟩ : ∃ q, q = x / 2 := ⟨_, rfl⟩
      rw [← hq] at HND HSN hq2
      obtain ⟨vv, hvv⟩ : ∃ y, y = (V (q : Int)).getD 0 := ⟨_, rfl⟩
      obtain ⟨bb, hbb⟩ : ∃ y, y = (V (q : Int)).isSome := ⟨_, rfl⟩
      rw [← hbb] at HSN
      rw [← hvv, ← hbb] at hq2
      have hltI : (k : Int) < (n : Int) := by omega
      have hels := hEr.lt
      clear hxk hLi hra hEr hq hvv hbb
      go_wp2_with fail
      go_quiet ((go_at_call 38; refine Calls.quiet_of_same (HND.out _)))
      clear hq2
      obtain ⟨wd, hwd⟩ : ∃ wd, wd = wr.drewN nq := ⟨_, rfl⟩
      rw [← hwd]
      have HWD : Hid (Below wr.heap.size wr wd) := by
        unfold Hid
        rw [hwd]
        exact below_drewN (Below.refl _ _) _
      clear hwd
      have HF : Hid (Is' wd w.heap.size u5 (nats (nmL V (L.take k)))) := row_kept hH.out.1 HWD.out.block
      have HB : Hid (Below w.heap.size w wd) := hH.out.2.trans (HWD.out.mono hH.out.2.size)
      have hsd : w.heap.size ≤ wd.heap.size := HB.out.size
      cases bb
      · have HS2 : Hid (nmL V (L.take (k + 1)) = nmL V (L.take k) ++ [q]) := by unfold Hid; rw [HSN.out]; simp
        go_wp2_with fail
        refine (HND.out _).mono ?_
        rintro ev wz ⟨rfl, hz⟩
        rw [hz]
        clear hz wz
        go_wp2_with (at_builtin; refine wpList_append_own_at _ rfl _ _ 31 rfl w.heap.size 3 ti (.int .i64 0) 1 8 underInts HI.out.1 HI.out.2.1 HI.out.2.2.1 HI.out.2.2.2 rfl (by decide) u5 _ _ rfl (row_kept HF.out (fun _ hq => heap_alloc_old _ _ hq)) ⟨wd.heap.size, 0, none⟩ 1 1 [.int .i64 (q : Int)] rfl rfl (cell_one_new _ _ _) (ones [(q : Int)]) (by rw [nats_len]; unfold maxLen; omega) (by rw [nats_len]; omega) (by rw [size_alloc']; omega) ?_; intro v6 w6 hown hgrow hnil hat)
        have HF6 : Hid (Is' w6 w.heap.size v6 (nats (nmL V (L.take (k + 1))))) := by
          unfold Hid Is'
          rw [HS2.out, nats_app, List.length_append, List.map_append]; exact hown
        have hb6 : Below w.heap.size w w6 := low_grown HB.out hsd hgrow (fun q hq => (HF.out.lt q hq).1)
        clear hown hgrow hnil hat
        (try go_wp2_with fail)
        exact ⟨⟨k + 1, by omega, by go_num, HF6.out, hb6⟩, by simp [intOf]; omega⟩
      · have HS2 : Hid (nmL V (L.take (k + 1)) = nmL V (L.take k)) := by unfold Hid; rw [HSN.out]; simp
        go_wp2_with fail
        exact ⟨⟨k + 1, by omega, by go_num, ⟨by rw [HS2.out]; exact HF.out, HB.out⟩⟩, by simp [intOf]; omega⟩
    · obtain rfl : k = n := by omega
      have hltI : ¬ (k : Int) < (k : Int) := by omega
      have HC : Hid _ := compact_any hH.out.1 (by rw [nats_len]; omega)
      have HB : Hid _ := hH.out.2
      go_wp2_with fail
      refine Calls.mono HC.out ?_
      rintro ev w2 ⟨u', rfl, hI2, hb2⟩
      have HI2 : Hid _ := hI2
      clear hI2
      go_wp2_with fail
      go_ret
      refine ⟨u', rfl, ?_, HB.out.trans hb2⟩
      have h1 := HI2.out
      rw [HN.out, List.take_length] at h1
      exact h1
end Go.Proofs.Ytajpnlmglkifcaa
