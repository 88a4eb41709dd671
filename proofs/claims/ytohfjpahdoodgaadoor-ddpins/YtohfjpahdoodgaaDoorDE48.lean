/- Contracts (the laws): an assignment by its number. · Contracts (the document's tables): the same, set, does it hang on a variable. · Contracts (the document's tables): with, Hangs, Top. · Contracts (the document's tables): the first variable that a table hangs on. · Tables and diagrams: equal tables are equal numbers; the first variable. · Contracts (the document's tables): the same, a call that only draws. · Drawn regions that read and call what only adds blocks. -/
import Derived.Test.YtohfjpahdoodgaaDoorDE41
import Derived.Test.YtohfjpahdoodgaaDoorPD1
namespace Go.Proofs.YtohfjpahdoodgaaDoor
open Go.RowKit
set_option linter.unusedSimpArgs false
set_option linter.unusedVariables false

def inF (n k : Nat) : List Bool := (List.range n).map fun i => bt k i
theorem inF_len (n k : Nat) : (inF n k).length = n := by simp [inF]
theorem asg_in {n k : Nat} (i : Nat) (hi : i < n) : asg (inF n k) (i : Int) = bt k i := by
  unfold asg inF
  rw [Int.toNat_natCast, List.getD_eq_getElem?_getD, List.getElem?_map, List.getElem?_range hi]
  rfl
theorem Bo.bz {w : World} {B : Nat} {v : Value} {l : List Bool} (h : Bo w B v l) : Bz w v l := by
  rcases h.row.2 with ⟨e, h0⟩ | ⟨r, cap, cur, e, hb, hg, hc, hm, hs, ht⟩
  · exact ⟨none, 0, by rw [e, h0], Or.inl (List.eq_nil_of_length_eq_zero h0)⟩
  · refine ⟨some ⟨r, 0, none⟩, cap, e, Or.inr ⟨r, 0, rfl, blk_lt hg, fun j hj => ?_⟩⟩
    have h' := h
    rw [e] at h'
    rw [Nat.zero_add]
    exact (h'.put hj).1
set_option maxRecDepth 20000 in
set_option maxHeartbeats 3200000 in
theorem input_any {n k : Nat} (hn : n ≤ 7) (hk : k ≤ 128) (w : World) :
    Calls Tryd.prog 12 #[.int .i64 (n : Int), .int .i64 (k : Int)] w fun e w' => ∃ u, e = .returned u ∧ Bo w' w.heap.size u (inF n k) ∧ Below w.heap.size w w' := by
  obtain ⟨ti, ht0, hz0, hz1, hz2⟩ := info_any infoBool
  have HI0 : Hid _ := And.intro ht0 (And.intro hz0 (And.intro hz1 hz2))
  clear ht0 hz0 hz1 hz2
  go_enter Tryd.func12, Tryd.ntmps12
  go_wp2_with fail
  go_loopw [5, 6] (fun u x wr => ∃ j : Nat, j ≤ n ∧ x = .int .i64 (j : Int) ∧ Hid (Below w.heap.size w wr ∧ wr.ownsRow w.heap.size 4 1 u j ((inF j k).map Value.bool))) (fun u x wr => n - (intOf x).toNat)
  case atStart => exact ⟨0, Nat.zero_le _, rfl, Below.refl _ _, World.ownsRow_nil _ _ _ _⟩
  case round =>
    obtain ⟨j, hj, rfl, hH⟩ := hrel
    by_cases hlt : j < n
    · have hltI : (j : Int) < (n : Int) := by omega
      have e : bt k j = (bits BinOp.and IntKind.i64 ((k : Int) / 2 ^ j) 1 == 1) := by unfold bt; rw [Nat.min_eq_left (by omega)]
      obtain ⟨y, hy⟩ : ∃ y, y = bt k j := ⟨_, rfl⟩
      rw [← hy] at e
      have e' := e.symm
      have HY : Hid (y = bt k j) := hy
      have hsz := hH.out.1.size
      clear hy e
      go_upto_region 5 with fail
      go_wp2_with (at_builtin; refine wpList_append_own_at _ rfl _ _ 33 rfl w.heap.size 4 ti (.bool false) 1 1 underBools HI0.out.1 HI0.out.2.1 HI0.out.2.2.1 HI0.out.2.2.2 rfl (by decide) _ j _ rfl (row_kept hH.out.2 (fun _ hq => heap_alloc_old _ _ hq)) ⟨wr.heap.size, 0, none⟩ 1 1 [.bool y] rfl rfl (cell_one_new _ _ _) (by intro z hz; rw [List.mem_singleton.1 hz]; rfl) (by unfold maxLen; omega) (by omega) (by rw [size_alloc']; omega) ?_; intro v4 w4 hown hgrow hnil hat)
      have hB : Below w.heap.size w w4 := (hH.out.1.alloc hsz _).grown hgrow (by rw [size_alloc']; omega) (fun b e => (World.ownsRow.lt hH.out.2 b e).1)
      refine ⟨⟨j + 1, by omega, by go_num, hB, ?_⟩, by simp [intOf]; omega⟩
      have e2 : (inF (j + 1) k).map Value.bool = (inF j k).map Value.bool ++ [.bool y] := by
        unfold inF
        rw [List.range_succ, List.map_append, List.map_append, HY.out]
        rfl
      rw [e2]
      exact hown
    · obtain rfl : j = n := by omega
      go_wp2_with fail
      go_ret
      have hb : Bo wr w.heap.size _ (inF j k) := ⟨by rw [inF_len]; exact hH.out.2⟩
      exact ⟨_, rfl, hb, hH.out.1⟩
end Go.Proofs.YtohfjpahdoodgaaDoor
namespace Go.Proofs.YtohfjpahdoodgaaDoor
open Go.RowKit

set_option maxHeartbeats 3200000 in
theorem tsame_any {w : World} {u v : Value} {l m : List Bool} (h : Bz w u l) (h' : Bz w v m) (hl : l.length ≤ 1000000) (hm : m.length ≤ 1000000) :
    Calls Tryd.prog 23 #[u, v] w fun e w' => e = .returned (.bool (decide (l = m))) ∧ Below w.heap.size w w' := by
  obtain ⟨a, c, rfl, -⟩ := h.ex
  obtain ⟨a', c', rfl, -⟩ := h'.ex
  have HC : Hid _ := h
  have HD : Hid _ := h'
  obtain ⟨n, hn⟩ : ∃ n, n = l.length := ⟨_, rfl⟩
  obtain ⟨n', hn'⟩ : ∃ n', n' = m.length := ⟨_, rfl⟩
  obtain ⟨r, hr⟩ : ∃ r, r = decide (l = m) := ⟨_, rfl⟩
  rw [← hn] at hl HC ⊢
  rw [← hn'] at hm HD ⊢
  rw [← hr]
  have HR : Hid _ := hr
  have HN : Hid _ := hn
  have HN' : Hid _ := hn'
  clear h h' hr hn hn'
  by_cases hne : (n : Int) = n'
  · obtain rfl : n = n' := by omega
    have z1 : ((n : Int) == n) = true := by simp
    have y1 : ((n : Int) != n) = false := by simp
    clear hne
    go_enter Tryd.func23, Tryd.ntmps23
    go_wp2_with fail
    go_loopw [5] (fun i wr => ∃ k : Nat, k ≤ n ∧ i = .int .i64 (k : Int) ∧ (∀ j, j < k → l.getD j false = m.getD j false) ∧ Below w.heap.size w wr) (fun i wr => n - (intOf i).toNat)
    case atStart => exact ⟨0, Nat.zero_le _, rfl, (fun j hj => by omega), Below.refl _ _⟩
    case round =>
      obtain ⟨k, hk, rfl, hz, hbl⟩ := hrel
      have HZ : Hid _ := hz
      clear hz
      by_cases hlt : k < n
      · obtain ⟨g, o, cq, ea, -, hck⟩ := HC.out.at' hbl (j := k) (by rw [← HN.out]; exact hlt)
        obtain ⟨g', o', cq', ea', -, hcm⟩ := HD.out.at' hbl (j := k) (by rw [← HN'.out]; exact hlt)
        injection ea with ea _ _
        injection ea' with ea' _ _
        subst ea ea'
        obtain ⟨s, hs⟩ : ∃ s, s = l.getD k false := ⟨_, rfl⟩
        obtain ⟨s', hs'⟩ : ∃ s', s' = m.getD k false := ⟨_, rfl⟩
        rw [← hs] at hck
        rw [← hs'] at hcm
        by_cases e : s = s'
        · have HB : Hid (l.getD k false = m.getD k false) := by unfold Hid; rw [← hs, ← hs', e]
          subst e
          have y2 : (s != s) = false := by simp
          clear hs hs'
          go_wp2_with fail
          go_region_held3 (fun x => x.cell? ⟨g, o + k, none⟩ = some (.bool s) ∧ x.cell? ⟨g', o' + k, none⟩ = some (.bool s))
            ((refine ⟨?_, ?_⟩ <;> simp [go_sem, hck, hcm]))
            (fail)
          go_wp2_with fail
          refine ⟨⟨k + 1, by omega, by go_num, fun j hj => ?_, hbl.drew⟩, by simp [intOf]; omega⟩
          by_cases e : j = k
          · subst e; exact HB.out
          · exact HZ.out j (by omega)
        · have HB : Hid (¬ l.getD k false = m.getD k false) := by unfold Hid; rw [← hs, ← hs']; exact e
          have hne : (s == s') = false := by simp [e]
          have hne2 : (s != s') = true := by simp [e]
          clear hs hs'
          go_wp2_with fail
          go_region_held3 (fun x => x.cell? ⟨g, o + k, none⟩ = some (.bool s) ∧ x.cell? ⟨g', o' + k, none⟩ = some (.bool s'))
            ((refine ⟨?_, ?_⟩ <;> simp [go_sem, hck, hcm]))
            (fail)
          go_wp2_with fail
          go_ret
          exact ⟨by rw [HR.out, show decide (l = m) = false by simp; intro q; exact HB.out (by rw [q])]; rfl, hbl.drew⟩
      · obtain rfl : k = n := by omega
        have HT : Hid (r = true) := by
          unfold Hid
          rw [HR.out, decide_eq_true_eq]
          refine List.ext_getElem (by rw [← HN.out, ← HN'.out]) fun j h1 h2 => ?_
          have := HZ.out j (by rw [HN.out]; exact h1)
          rwa [List.getD_eq_getElem?_getD, List.getD_eq_getElem?_getD, List.getElem?_eq_getElem h1, List.getElem?_eq_getElem h2] at this
        go_wp2_with fail
        go_ret
        exact ⟨by rw [HT.out]; rfl, hbl⟩
  · have z1 : ((n : Int) == n') = false := by simp [hne]
    have y1 : ((n : Int) != n') = true := by simp [hne]
    go_enter Tryd.func23, Tryd.ntmps23
    go_wp2_with fail
    go_ret
    exact ⟨by rw [HR.out]; simp; intro e; exact hne (by rw [HN.out, HN'.out, e]), Below.refl _ _⟩


/-- The number of an assignment with one variable set. -/
def wi (k i : Nat) (b : Bool) : Nat := k - k / 2 ^ i % 2 * 2 ^ i + (if b then 2 ^ i else 0)
theorem wi_bits : ∀ k : Nat, k < 128 → ∀ i : Nat, i < 7 → bits .andNot .i64 (k : Int) (N2 i : Int) = ((wi k i false : Nat) : Int) ∧ bits .or .i64 ((wi k i false : Nat) : Int) (N2 i : Int) = ((wi k i true : Nat) : Int) := by decide +kernel
theorem wi_lt : ∀ n : Nat, n < 8 → ∀ i : Nat, i < n → ∀ k : Nat, k < 2 ^ n → wi k i false < 2 ^ n ∧ wi k i true < 2 ^ n := by decide +kernel
theorem wi_bt0 : ∀ k : Nat, k < 128 → ∀ i : Nat, i < 7 → ∀ j : Nat, j < 7 → Nat.testBit (wi k i false) j = (if j = i then false else Nat.testBit k j) ∧ Nat.testBit (wi k i true) j = (if j = i then true else Nat.testBit k j) := by decide +kernel
theorem wi_bt {k i : Nat} (hk : k < 128) (hi : i < 7) (b : Bool) (j : Nat) : bt (wi k i b) j = if j = i then b else bt k j := by
  have hl := wi_lt 7 (by decide) i hi k hk
  have hw : wi k i b < 128 := by cases b; exact hl.1; exact hl.2
  rw [bt_eq (by omega), bt_eq (by omega)]
  by_cases hj : j < 7
  · have := wi_bt0 k hk i hi j hj
    cases b
    · exact this.1
    · exact this.2
  · rw [if_neg (by omega), Nat.testBit_lt_two_pow (Nat.lt_of_lt_of_le hw (Nat.pow_le_pow_right (n := 2) (i := 7) (by decide) (by omega))), Nat.testBit_lt_two_pow (Nat.lt_of_lt_of_le hk (Nat.pow_le_pow_right (n := 2) (i := 7) (by decide) (by omega)))]
def withT (l : List Bool) (i : Nat) (b : Bool) : List Bool := (List.range l.length).map fun k => l.getD (wi k i b) false
def updA (x : Int → Bool) (i : Nat) (b : Bool) : Int → Bool := fun j => if j.toNat = i then b else x j
theorem tabV_with {n i : Nat} (hn : n ≤ 7) (hi : i < n) (b : Bool) (V : (Int → Bool) → Bool) : withT (tabV n V) i b = tabV n (fun x => V (updA x i b)) := by
  unfold withT
  rw [tabV_len]
  refine List.map_congr_left fun k hk => ?_
  have hk' := List.mem_range.1 hk
  have hk2 : k < 2 ^ n := hk'
  have hl := wi_lt n (by omega) i hi k hk2
  have hw : wi k i b < N2 n := by cases b; exact hl.1; exact hl.2
  rw [tabV_get V hw]
  have h128 : k < 128 := Nat.lt_of_lt_of_le hk2 (n2_le hn).1
  congr 1
  funext j
  rw [wi_bt h128 (by omega) b]
  rfl
end Go.Proofs.YtohfjpahdoodgaaDoor
namespace Go.Proofs.YtohfjpahdoodgaaDoor
open Go.RowKit

set_option maxRecDepth 20000 in
set_option maxHeartbeats 3200000 in
theorem twith_any {w : World} {u : Value} {l : List Bool} {n i : Nat} (hu : Bz w u l) (hl : l.length = N2 n) (hn : n ≤ 7) (hi : i < n) (b : Bool) :
    Calls Tryd.prog 55 #[u, .int .i64 (i : Int), .bool b] w fun e w' => ∃ v, e = .returned v ∧ Tn w w' v (withT l i b) := by
  have HU : Hid _ := hu
  obtain ⟨a1, c1, rfl, -⟩ := hu.ex
  have eP := two_pow (n := i) (by omega)
  obtain ⟨q1, q2⟩ := n2_le hn
  rw [← hl] at q1 q2
  unfold withT
  obtain ⟨T, hT⟩ : ∃ T : Nat → Bool, T = fun k => l.getD (wi k i b) false := ⟨_, rfl⟩
  rw [← hT]
  have HT : Hid _ := hT
  have HW : Hid (∀ k, k < l.length → bits .andNot .i64 (k : Int) (N2 i : Int) = ((wi k i false : Nat) : Int) ∧ bits .or .i64 ((wi k i false : Nat) : Int) (N2 i : Int) = ((wi k i true : Nat) : Int) ∧ wi k i false < l.length ∧ wi k i true < l.length) := fun k hk => by
    obtain ⟨b1, b2⟩ := wi_bits k (by omega) i (by omega)
    obtain ⟨b3, b4⟩ := wi_lt n (by omega) i hi k (by rw [hl] at hk; exact hk)
    exact ⟨b1, b2, by rw [hl]; exact b3, by rw [hl]; exact b4⟩
  obtain ⟨N, hN⟩ : ∃ N, N = l.length := ⟨_, rfl⟩
  obtain ⟨P, hP⟩ : ∃ P, P = N2 i := ⟨_, rfl⟩
  rw [← hN] at q1 q2 HU HW ⊢
  rw [← hP] at eP HW
  have HN : Hid _ := hN
  have hmk : ∀ wx, (Instr.makeSlice 34 (.int .i64 (N : Int)) (.int .i64 (N : Int))).run Tryd.prog wx = .ok (.slice (some ⟨wx.heap.size, 0, none⟩) N N) (wx.alloc (.cells (madeCells #[.bool false] N) 4)) := fun wx => run_make_row' (P := Tryd.prog) 34 4 (.bool false) 1 (by kernel_rfl) infoBool rfl .i64 .i64 N (by omega) (by omega) wx
  have HMB : Hid _ := Bo.made w (n := N) (by omega)
  clear hN hT hu hl hP
  go_enter Tryd.func55, Tryd.ntmps55
  go_wp2_with fail
  go_loopw [8] (fun x wr => ∃ k : Nat, k ≤ N ∧ x = .int .i64 (k : Int) ∧ Hid (Below w.heap.size w wr ∧ Bo wr w.heap.size (.slice (some ⟨w.heap.size, 0, none⟩) N N) ((List.range k).map T ++ List.replicate (N - k) false))) (fun x wr => N - (intOf x).toNat)
  case atStart => exact ⟨0, Nat.zero_le _, rfl, by go_grown, by simpa using HMB.out⟩
  case round =>
    obtain ⟨k, hk, rfl, hH⟩ := hrel
    by_cases hlt : k < N
    · obtain ⟨c1', c2', c3'⟩ := hH.out.2.put (j := k) (by rw [fill_len hk]; exact hlt)
      have HB := (c3' (T k)).1
      rw [fill_set (f := T) hlt] at HB
      have HB2 : Hid _ := HB
      have HB3 : Hid _ := hH.out.1.trans (c3' (T k)).2
      have hltI : (k : Int) < (N : Int) := by omega
      have hsz := hH.out.1.size
      have hsz2 := (hH.out.2.lt).2.1
      obtain ⟨w1, w2, w3, w4⟩ := HW.out k hlt
      have hTk : T k = l.getD (wi k i b) false := by rw [HT.out]
      clear c3' HB
      cases b
      · obtain ⟨r1, o1, k1, e1, l1, d1⟩ := HU.out.at' hH.out.1 (j := wi k i false) (by rw [← HN.out]; exact w3)
        injection e1 with e1 _ _
        subst e1
        rw [← hTk] at d1
        obtain ⟨y, hy⟩ : ∃ y, y = T k := ⟨_, rfl⟩
        rw [← hy] at d1 HB2 HB3
        obtain ⟨j, hj⟩ : ∃ j, j = wi k i false := ⟨_, rfl⟩
        rw [← hj] at d1 w1 w3
        have w3I : (j : Int) < (N : Int) := by omega
        clear hy hTk w2 w4 hj
        go_wp2_with fail
        refine ⟨⟨k + 1, by omega, by go_num, HB3.out, HB2.out⟩, by simp [intOf]; omega⟩
      · obtain ⟨r1, o1, k1, e1, l1, d1⟩ := HU.out.at' hH.out.1 (j := wi k i true) (by rw [← HN.out]; exact w4)
        injection e1 with e1 _ _
        subst e1
        rw [← hTk] at d1
        obtain ⟨y, hy⟩ : ∃ y, y = T k := ⟨_, rfl⟩
        rw [← hy] at d1 HB2 HB3
        obtain ⟨j, hj⟩ : ∃ j, j = wi k i true := ⟨_, rfl⟩
        obtain ⟨j', hj'⟩ : ∃ j, j = wi k i false := ⟨_, rfl⟩
        rw [← hj'] at w1 w2
        rw [← hj] at d1 w2 w4
        have w4I : (j : Int) < (N : Int) := by omega
        clear hy hTk w3 hj hj'
        go_wp2_with fail
        refine ⟨⟨k + 1, by omega, by go_num, HB3.out, HB2.out⟩, by simp [intOf]; omega⟩
    · obtain rfl : k = N := by omega
      go_wp2_with fail
      go_ret
      have h2 := hH.out.2
      rw [fill_end] at h2
      exact ⟨_, rfl, ⟨_, by simp; rfl⟩, h2, hH.out.1⟩
/-- Does it hang on the variable? -/
def hangT (l : List Bool) (i : Nat) : Bool := !decide (withT l i false = withT l i true)
theorem withT_len (l : List Bool) (i : Nat) (b : Bool) : (withT l i b).length = l.length := by simp [withT]
theorem Tn.bz {w w' : World} {v : Value} {l : List Bool} (h : Tn w w' v l) : Bz w' v l := h.bo.bz
set_option maxRecDepth 20000 in
set_option maxHeartbeats 3200000 in
theorem hangs_any {w : World} {u : Value} {l : List Bool} {n i : Nat} (hu : Bz w u l) (hl : l.length = N2 n) (hn : n ≤ 7) (hi : i < n) :
    Calls Tryd.prog 57 #[u, .int .i64 (i : Int)] w fun e w' => e = .returned (.bool (hangT l i)) ∧ Below w.heap.size w w' := by
  have HU : Hid _ := hu
  have H0 : Hid _ := twith_any hu hl hn hi false
  have HLE : Hid (l.length ≤ 128) := by unfold Hid; rw [hl]; exact (n2_le hn).1
  have HL : Hid _ := hl
  obtain ⟨a1, c1, rfl, -⟩ := hu.ex
  clear hu hl
  go_enter Tryd.func57, Tryd.ntmps57
  go_wp2_with fail
  refine Calls.mono H0.out ?_
  rintro e w1 ⟨v, rfl, hv⟩
  have HV : Hid _ := hv
  have H1 : Hid _ := twith_any (HU.out.bel hv.bel) HL.out hn hi true
  obtain ⟨r, rfl⟩ := hv.ex
  clear hv H0
  go_wp2_with fail
  refine Calls.mono H1.out ?_
  rintro e w2 ⟨v', rfl, hv'⟩
  have HB : Hid (Below w.heap.size w w2) := HV.out.bel.trans (hv'.bel.mono HV.out.bel.size)
  have H2 : Hid _ := tsame_any (HV.out.bz.bel hv'.bel) hv'.bz (by rw [withT_len]; have := HLE.out; omega) (by rw [withT_len]; have := HLE.out; omega)
  obtain ⟨r', rfl⟩ := hv'.ex
  clear hv' H1
  go_wp2_with fail
  refine Calls.mono H2.out ?_
  rintro e w3 ⟨rfl, hb⟩
  go_wp2_with fail
  go_ret
  exact ⟨rfl, HB.out.trans (hb.mono HB.out.size)⟩
end Go.Proofs.YtohfjpahdoodgaaDoor
namespace Go.Proofs.YtohfjpahdoodgaaDoor
open Go.RowKit

/-- The first variable that it hangs on, from i on; n: none. -/
def topFrom (l : List Bool) (n : Nat) : Nat → Nat → Nat
  | 0, i => i
  | m + 1, i => if hangT l i then i else topFrom l n m (i + 1)
def topT (l : List Bool) (n : Nat) : Nat := topFrom l n n 0
theorem topFrom_spec (l : List Bool) (n : Nat) : ∀ (m i : Nat), i ≤ topFrom l n m i ∧ topFrom l n m i ≤ i + m ∧ (∀ j, i ≤ j → j < topFrom l n m i → hangT l j = false) ∧ (topFrom l n m i < i + m → hangT l (topFrom l n m i) = true)
  | 0, i => ⟨Nat.le_refl _, Nat.le_refl _, (fun j h1 h2 => by simp only [topFrom] at h2; omega), fun h => by simp only [topFrom] at h; omega⟩
  | m + 1, i => by
    unfold topFrom
    by_cases h : hangT l i = true
    · rw [if_pos h]; exact ⟨Nat.le_refl _, by omega, fun j h1 h2 => by omega, fun _ => h⟩
    · rw [if_neg h]
      obtain ⟨h1, h2, h3, h4⟩ := topFrom_spec l n m (i + 1)
      refine ⟨by omega, by omega, fun j h5 h6 => ?_, fun h5 => h4 (by omega)⟩
      by_cases e : j = i
      · subst e; simpa using h
      · exact h3 j (by omega) h6
set_option maxRecDepth 20000 in
set_option maxHeartbeats 3200000 in
theorem top_any' {w : World} {u : Value} {l : List Bool} {n : Nat} (hu : Bz w u l) (hl : l.length = N2 n) (hn : n ≤ 7) :
    Calls Tryd.prog 25 #[u, .int .i64 (n : Int)] w fun e w' => e = .returned (.int .i64 (topT l n : Int)) ∧ Below w.heap.size w w' := by
  have HU : Hid _ := hu
  have HL : Hid _ := hl
  obtain ⟨a1, c1, rfl, -⟩ := hu.ex
  obtain ⟨T, hT⟩ : ∃ T, T = topT l n := ⟨_, rfl⟩
  rw [← hT]
  have HT : Hid _ := hT
  obtain ⟨N, hN⟩ : ∃ N, N = l.length := ⟨_, rfl⟩
  rw [← hN] at HU ⊢
  clear hu hl hT hN
  go_enter Tryd.func25, Tryd.ntmps25
  go_wp2_with fail
  go_loopw [5] (fun x wr => ∃ i : Nat, i ≤ n ∧ x = .int .i64 (i : Int) ∧ Hid (Below w.heap.size w wr ∧ T = topFrom l n (n - i) i)) (fun x wr => n - (intOf x).toNat)
  case atStart => exact ⟨0, Nat.zero_le _, rfl, Below.refl _ _, by rw [HT.out]; rfl⟩
  case round =>
    obtain ⟨i, hi, rfl, hH⟩ := hrel
    by_cases hlt : i < n
    · have hltI : (i : Int) < (n : Int) := by omega
      have HG : Hid _ := hangs_any (HU.out.bel hH.out.1) HL.out hn hlt
      have hstep := hH.out.2
      rw [show n - i = (n - (i + 1)) + 1 by omega, topFrom] at hstep
      cases hh : hangT l i
      · rw [hh] at HG
        rw [hh, if_neg (by decide)] at hstep
        have HS : Hid _ := hstep
        clear hstep hh
        go_wp2_with fail
        refine Calls.mono HG.out ?_
        rintro e w1 ⟨rfl, hb⟩
        have HB : Hid _ := hb
        clear hb
        go_wp2_with fail
        refine ⟨⟨i + 1, by omega, by go_num, hH.out.1.trans (HB.out.mono hH.out.1.size), HS.out⟩, by simp [intOf]; omega⟩
      · rw [hh] at HG
        rw [hh, if_pos rfl] at hstep
        have HS : Hid _ := hstep
        clear hstep hh
        go_wp2_with fail
        refine Calls.mono HG.out ?_
        rintro e w1 ⟨rfl, hb⟩
        have HB : Hid _ := hb
        clear hb
        go_wp2_with fail
        go_ret
        exact ⟨congrArg (fun x : Nat => Ending.returned (.int .i64 (x : Int))) HS.out.symm, hH.out.1.trans (HB.out.mono hH.out.1.size)⟩
    · obtain rfl : n = i := by omega
      have hT := hH.out.2
      rw [Nat.sub_self] at hT
      have HS : Hid (T = n) := hT
      clear hT
      go_wp2_with fail
      go_ret
      exact ⟨congrArg (fun x : Nat => Ending.returned (.int .i64 (x : Int))) HS.out.symm, hH.out.1⟩
end Go.Proofs.YtohfjpahdoodgaaDoor
namespace Go.Proofs.YtohfjpahdoodgaaDoor

theorem enc_upto {n : Nat} (hn : n ≤ 7) (x : Int → Bool) : ∀ m, m ≤ n → ∃ k, k < 2 ^ n ∧ ∀ j, j < m → bt k j = x (j : Int)
  | 0, _ => ⟨0, Nat.two_pow_pos n, fun j hj => by omega⟩
  | m + 1, hm => by
    obtain ⟨k, hk, h⟩ := enc_upto hn x m (by omega)
    have hl := wi_lt n (by omega) m (by omega) k hk
    have h128 : k < 128 := Nat.lt_of_lt_of_le hk (n2_le hn).1
    refine ⟨wi k m (x (m : Int)), ?_, fun j hj => ?_⟩
    · cases x (m : Int)
      · exact hl.1
      · exact hl.2
    · rw [wi_bt h128 (by omega)]
      by_cases e : j = m
      · rw [if_pos e, e]
      · rw [if_neg e]; exact h j (by omega)
theorem enc {n : Nat} (hn : n ≤ 7) (x : Int → Bool) : ∃ k, k < 2 ^ n ∧ ∀ j, j < n → bt k j = x (j : Int) := enc_upto hn x n (Nat.le_refl _)
section
variable {n : Nat} {ns : List T3} {sp : List Int}
theorem val_cg (g : Good n ns sp) {i : Int} (hi : alive ns i) {x y : Int → Bool} (h : ∀ k, (at3 ns i).1 ≤ k → k < n → x k = y k) : val n ns x i = val n ns y i :=
  val_congr g (n + 1) i hi (by have := (g.var hi).1; omega) h
/-- What holds of all numbered assignments holds of all. -/
theorem all_enc (hn : n ≤ 7) (g : Good n ns sp) {i j : Int} (hi : alive ns i) (hj : alive ns j) (h : ∀ k, k < N2 n → val n ns (fun q => bt k q.toNat) i = val n ns (fun q => bt k q.toNat) j) (x : Int → Bool) : val n ns x i = val n ns x j := by
  obtain ⟨k, hk, he⟩ := enc hn x
  have e : ∀ q : Int, 0 ≤ q → q < n → x q = bt k q.toNat := fun q h0 h1 => by
    have := he q.toNat (by omega)
    rw [this, Int.toNat_of_nonneg h0]
  rw [val_cg g hi (y := fun q => bt k q.toNat) (fun q h1 h2 => e q (by have := (g.var hi).1; omega) h2), val_cg g hj (y := fun q => bt k q.toNat) (fun q h1 h2 => e q (by have := (g.var hj).1; omega) h2)]
  exact h k hk
theorem tab_eq (hn : n ≤ 7) (g : Good n ns sp) {i j : Int} (hi : alive ns i) (hj : alive ns j) : tabV n (fun x => val n ns x i) = tabV n (fun x => val n ns x j) ↔ i = j := by
  constructor
  · intro h
    refine val_eq g hi hj (all_enc hn g hi hj fun k hk => ?_)
    have h1 := tabV_get (n := n) (fun x => val n ns x i) hk
    have h2 := tabV_get (n := n) (fun x => val n ns x j) hk
    rw [h, h2] at h1
    exact h1.symm
  · rintro rfl; rfl
theorem hang_no (hn : n ≤ 7) (g : Good n ns sp) {f : Int} (hf : alive ns f) {i : Nat} (hi : i < n) (hlt : (i : Int) < (at3 ns f).1) : hangT (tabV n (fun x => val n ns x f)) i = false := by
  unfold hangT
  rw [tabV_with hn hi, tabV_with hn hi, tabV_congr (B := fun x => val n ns (updA x i true) f) (fun x => ?_)]
  · simp
  · refine val_cg g hf fun k h1 h2 => ?_
    unfold updA
    rw [if_neg (by omega), if_neg (by omega)]
theorem hang_yes (hn : n ≤ 7) (g : Good n ns sp) {f : Int} (hf : alive ns f) (h2 : 2 ≤ f) {i : Nat} (hi : (i : Int) = (at3 ns f).1) : hangT (tabV n (fun x => val n ns x f)) i = true := by
  obtain ⟨q1, q2, q3, q4, q5, q6, q7⟩ := g.nd f h2 hf
  have hin : i < n := by omega
  cases hh : hangT (tabV n (fun x => val n ns x f)) i with
  | true => rfl
  | false =>
    exfalso
    unfold hangT at hh
    rw [tabV_with hn hin, tabV_with hn hin] at hh
    have he : tabV n (fun x => val n ns (updA x i false) f) = tabV n (fun x => val n ns (updA x i true) f) := by simpa using hh
    refine q3 (val_eq g q4 q5 (all_enc hn g q4 q5 fun k hk => ?_))
    have h1 := tabV_get (n := n) (fun x => val n ns (updA x i false) f) hk
    have h3 := tabV_get (n := n) (fun x => val n ns (updA x i true) f) hk
    rw [he, h3] at h1
    have e1 := val_step g (updA (fun q => bt k q.toNat) i false) hf h2
    have e2 := val_step g (updA (fun q => bt k q.toNat) i true) hf h2
    have u1 : updA (fun q => bt k q.toNat) i false (at3 ns f).1 = false := by unfold updA; rw [if_pos (by omega)]
    have u2 : updA (fun q => bt k q.toNat) i true (at3 ns f).1 = true := by unfold updA; rw [if_pos (by omega)]
    rw [u1, if_neg (by decide)] at e1
    rw [u2, if_pos rfl] at e2
    have c1 : val n ns (updA (fun q => bt k q.toNat) i false) (at3 ns f).2.1 = val n ns (fun q => bt k q.toNat) (at3 ns f).2.1 := val_cg g q4 fun q h4 h5 => by unfold updA; rw [if_neg (by omega)]
    have c2 : val n ns (updA (fun q => bt k q.toNat) i true) (at3 ns f).2.2 = val n ns (fun q => bt k q.toNat) (at3 ns f).2.2 := val_cg g q5 fun q h4 h5 => by unfold updA; rw [if_neg (by omega)]
    rw [← c1, ← e1, ← c2, ← e2]
    exact h1.symm
/-- The first variable that a diagram's table hangs on is its node's. -/
theorem top_tab (hn : n ≤ 7) (g : Good n ns sp) {f : Int} (hf : alive ns f) : (topT (tabV n (fun x => val n ns x f)) n : Int) = (at3 ns f).1 := by
  obtain ⟨v0, v1⟩ := g.var hf
  obtain ⟨t1, t2, t3, t4⟩ := topFrom_spec (tabV n (fun x => val n ns x f)) n n 0
  unfold topT
  generalize topFrom (tabV n (fun x => val n ns x f)) n n 0 = t at *
  rcases (show (t : Int) < (at3 ns f).1 ∨ (t : Int) = (at3 ns f).1 ∨ (at3 ns f).1 < (t : Int) by omega) with h | h | h
  · have := t4 (by omega)
    rw [hang_no hn g hf (by omega) h] at this
    cases this
  · exact h
  · have h2 := g.top hf (by omega)
    have := t3 (at3 ns f).1.toNat (by omega) (by omega)
    rw [hang_yes hn g hf h2 (by omega)] at this
    cases this
end
end Go.Proofs.YtohfjpahdoodgaaDoor
namespace Go.Proofs.YtohfjpahdoodgaaDoor
open Go.RowKit

set_option maxHeartbeats 3200000 in
theorem tsame_q {w : World} {u v : Value} {l m : List Bool} (h : Bz w u l) (h' : Bz w v m) (hl : l.length ≤ 1000000) (hm : m.length ≤ 1000000) :
    Calls Tryd.prog 23 #[u, v] w fun e w' => e = .returned (.bool (decide (l = m))) ∧ ∃ m, w' = w.drewN m := by
  obtain ⟨a, c, rfl, -⟩ := h.ex
  obtain ⟨a', c', rfl, -⟩ := h'.ex
  have HC : Hid _ := h
  have HD : Hid _ := h'
  obtain ⟨n, hn⟩ : ∃ n, n = l.length := ⟨_, rfl⟩
  obtain ⟨n', hn'⟩ : ∃ n', n' = m.length := ⟨_, rfl⟩
  obtain ⟨r, hr⟩ : ∃ r, r = decide (l = m) := ⟨_, rfl⟩
  rw [← hn] at hl HC ⊢
  rw [← hn'] at hm HD ⊢
  rw [← hr]
  have HR : Hid _ := hr
  have HN : Hid _ := hn
  have HN' : Hid _ := hn'
  clear h h' hr hn hn'
  by_cases hne : (n : Int) = n'
  · obtain rfl : n = n' := by omega
    have z1 : ((n : Int) == n) = true := by simp
    have y1 : ((n : Int) != n) = false := by simp
    clear hne
    go_enter Tryd.func23, Tryd.ntmps23
    go_wp2_with fail
    go_loopw [5] (fun i wr => ∃ k : Nat, k ≤ n ∧ i = .int .i64 (k : Int) ∧ (∀ j, j < k → l.getD j false = m.getD j false) ∧ Hid (∃ m, wr = w.drewN m)) (fun i wr => n - (intOf i).toNat)
    case atStart => exact ⟨0, Nat.zero_le _, rfl, (fun j hj => by omega), 0, rfl⟩
    case round =>
      obtain ⟨k, hk, rfl, hz, hqq⟩ := hrel
      have hbl : Below w.heap.size w wr := by obtain ⟨m, e⟩ := hqq.out; rw [e]; exact below_drewN (Below.refl _ _) _
      have HD1 : Hid (∃ m, wr.drew = w.drewN m) := by obtain ⟨m, e⟩ := hqq.out; exact ⟨m + 1, by rw [e]; rfl⟩
      have HZ : Hid _ := hz
      clear hz
      by_cases hlt : k < n
      · obtain ⟨g, o, cq, ea, -, hck⟩ := HC.out.at' hbl (j := k) (by rw [← HN.out]; exact hlt)
        obtain ⟨g', o', cq', ea', -, hcm⟩ := HD.out.at' hbl (j := k) (by rw [← HN'.out]; exact hlt)
        injection ea with ea _ _
        injection ea' with ea' _ _
        subst ea ea'
        obtain ⟨s, hs⟩ : ∃ s, s = l.getD k false := ⟨_, rfl⟩
        obtain ⟨s', hs'⟩ : ∃ s', s' = m.getD k false := ⟨_, rfl⟩
        rw [← hs] at hck
        rw [← hs'] at hcm
        by_cases e : s = s'
        · have HB : Hid (l.getD k false = m.getD k false) := by unfold Hid; rw [← hs, ← hs', e]
          subst e
          have y2 : (s != s) = false := by simp
          clear hs hs'
          go_wp2_with fail
          go_region_held3 (fun x => x.cell? ⟨g, o + k, none⟩ = some (.bool s) ∧ x.cell? ⟨g', o' + k, none⟩ = some (.bool s))
            ((refine ⟨?_, ?_⟩ <;> simp [go_sem, hck, hcm]))
            (fail)
          go_wp2_with fail
          refine ⟨⟨k + 1, by omega, by go_num, fun j hj => ?_, HD1.out⟩, by simp [intOf]; omega⟩
          by_cases e : j = k
          · subst e; exact HB.out
          · exact HZ.out j (by omega)
        · have HB : Hid (¬ l.getD k false = m.getD k false) := by unfold Hid; rw [← hs, ← hs']; exact e
          have hne : (s == s') = false := by simp [e]
          have hne2 : (s != s') = true := by simp [e]
          clear hs hs'
          go_wp2_with fail
          go_region_held3 (fun x => x.cell? ⟨g, o + k, none⟩ = some (.bool s) ∧ x.cell? ⟨g', o' + k, none⟩ = some (.bool s'))
            ((refine ⟨?_, ?_⟩ <;> simp [go_sem, hck, hcm]))
            (fail)
          go_wp2_with fail
          go_ret
          exact ⟨by rw [HR.out, show decide (l = m) = false by simp; intro q; exact HB.out (by rw [q])]; rfl, HD1.out⟩
      · obtain rfl : k = n := by omega
        have HT : Hid (r = true) := by
          unfold Hid
          rw [HR.out, decide_eq_true_eq]
          refine List.ext_getElem (by rw [← HN.out, ← HN'.out]) fun j h1 h2 => ?_
          have := HZ.out j (by rw [HN.out]; exact h1)
          rwa [List.getD_eq_getElem?_getD, List.getD_eq_getElem?_getD, List.getElem?_eq_getElem h1, List.getElem?_eq_getElem h2] at this
        go_wp2_with fail
        go_ret
        exact ⟨by rw [HT.out]; rfl, hqq.out⟩
  · have z1 : ((n : Int) == n') = false := by simp [hne]
    have y1 : ((n : Int) != n') = true := by simp [hne]
    go_enter Tryd.func23, Tryd.ntmps23
    go_wp2_with fail
    go_ret
    exact ⟨by rw [HR.out]; simp; intro e; exact hne (by rw [HN.out, HN'.out, e]), 0, rfl⟩


end Go.Proofs.YtohfjpahdoodgaaDoor
namespace Go.Proofs.YtohfjpahdoodgaaDoor
open Go.RowKit
structure BW (W : World) (g : Nat → Nat) (D : Nat → Bool) (x : World) : Prop where
  bel : Below W.heap.size W x
section
variable {W x y : World} {g g' : Nat → Nat} {D D' : Nat → Bool}
theorem BW.start : BW W g D W.drew := ⟨⟨rfl, rfl, rfl, Nat.le_refl _, fun _ _ => rfl⟩⟩
theorem BW.go (h : BW W g D x) : BW W g' D' x := ⟨h.bel⟩
theorem BW.called (h : BW W g D x) (hb : Below x.heap.size x y) : BW W g' D' y := ⟨h.bel.trans (hb.mono h.bel.size)⟩
end
/-- An assignment's list is made on the way, by the operation ci. -/
structure IW (W : World) (ci n : Nat) (l : List Bool) (g : Nat → Nat) (D : Nat → Bool) (x : World) : Prop where
  bel : Below W.heap.size W x
  i : D ci = true → Bz x (sl n (g ci)) l
section
variable {W x y : World} {ci n i p : Nat} {l : List Bool} {g : Nat → Nat} {D : Nat → Bool}
theorem IW.start : IW W ci n l (fun _ => 0) (fun _ => false) W.drew := ⟨⟨rfl, rfl, rfl, Nat.le_refl _, fun _ _ => rfl⟩, fun e => nomatch e⟩
theorem IW.go (h : IW W ci n l g D x) (hi : (i != ci) = true) : IW W ci n l g (updB D i) x := by
  have u1 := updB_ne (L := D) (i := i) (k := ci) (by intro e; simp [e] at hi)
  exact ⟨h.bel, by rw [u1]; exact h.i⟩
theorem IW.called (h : IW W ci n l g D x) (hi : (i != ci) = true) (hb : Below x.heap.size x y) : IW W ci n l g (updB D i) y := by
  have u1 := updB_ne (L := D) (i := i) (k := ci) (by intro e; simp [e] at hi)
  exact ⟨h.bel.trans (hb.mono h.bel.size), by rw [u1]; exact fun e => (h.i e).bel hb⟩
theorem IW.made (h : IW W ci n l g D x) (hb : Below x.heap.size x y) (hv : Bz y (sl n p) l) : IW W ci n l (updG g ci p) (updB D ci) y :=
  ⟨h.bel.trans (hb.mono h.bel.size), fun _ => by rw [updG_eq]; exact hv⟩
end
/-- What a diagram is worth under an assignment's list. -/
theorem val_in {n k : Nat} {ns : List T3} {sp : List Int} (g : Good n ns sp) {f : Int} (hf : alive ns f) : val n ns (asg (inF n k)) f = val n ns (fun i => bt k i.toNat) f := by
  refine val_cg g hf fun q h1 h2 => ?_
  have h0 := (g.var hf).1
  have := asg_in (n := n) (k := k) q.toNat (by omega)
  rwa [Int.toNat_of_nonneg (by omega)] at this
theorem Hl.get' {w : World} {F : Nat → Prop} {B rl M cl : Nat} {H : List HT} (h : Hl w F B (.slice (some ⟨rl, 0, none⟩) M cl) H) {j : Nat} {p : HT} (hp : H[j]? = some p) : rl < w.heap.size ∧ w.cell? ⟨rl, j * 2, none⟩ = some (.int .i64 p.1) ∧ w.cell? ⟨rl, j * 2 + 1, none⟩ = some p.2.1 := by
  obtain ⟨r, c, e, h1, h2, h3⟩ := h.get hp
  injection e with e _ _
  injection e with e
  injection e with e
  subst e
  exact ⟨h1, h2, h3⟩
end Go.Proofs.YtohfjpahdoodgaaDoor
