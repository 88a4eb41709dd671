/- Contracts (traces): needed. -/
import Derived.Test.YthdgmkjjpmigeaaTR16
namespace Go.Proofs.Ythdgmkjjpmigeaa
open Go.RowKit
set_option linter.unusedSimpArgs false
set_option linter.unusedVariables false

/-- v owns these truths. -/
structure Bo (w : World) (B : Nat) (v : Value) (l : List Bool) : Prop where
  row : w.ownsRow B 4 1 v l.length (l.map Value.bool)
theorem Bo.made (w : World) {n : Nat} (hn : n ≤ 1000000) : Bo (w.alloc (.cells (madeCells #[.bool false] n) 4)) w.heap.size (.slice (some ⟨w.heap.size, 0, none⟩) n n) (List.replicate n false) := by
  obtain ⟨c, h1, h2, h3⟩ := World.rowIs_made w (.bool false) n 4
  refine ⟨by simp, Or.inr ⟨w.heap.size, n, c, by rw [List.length_replicate], Nat.le_refl _, h1, by rw [List.length_replicate]; exact Nat.le_refl _, by unfold maxLen; omega, by omega, ?_⟩⟩
  refine List.ext_getElem? fun j => ?_
  rw [List.length_replicate]
  by_cases hj : j < n
  · rw [List.getElem?_take_of_lt (by omega), List.getElem?_map, List.getElem?_replicate, if_pos hj]
    have := h3 j hj
    simpa using this
  · rw [List.getElem?_eq_none (by rw [List.length_take]; simp; omega), List.getElem?_eq_none (by simp; omega)]
theorem Bo.put {w : World} {B r n cap : Nat} {l : List Bool} (h : Bo w B (.slice (some ⟨r, 0, none⟩) n cap) l) {j : Nat} (hj : j < l.length) : w.cell? ⟨r, j, none⟩ = some (.bool (l.getD j false)) ∧ w.frozen? ⟨r, j, none⟩ = false ∧ ∀ x : Bool, Bo (w.setCell ⟨r, j, none⟩ (.bool x)) B (.slice (some ⟨r, 0, none⟩) n cap) (l.set j x) ∧ Below B w (w.setCell ⟨r, j, none⟩ (.bool x)) := by
  rcases h.row.2 with ⟨e, -⟩ | ⟨g, cap', cur, e, hb, hg, hc, hm, hs, ht⟩
  · cases e
  · injection e with e1 e2 e3
    injection e1 with e1
    injection e1 with e1
    subst e1 e2 e3
    have hjs : j < cur.size := by rw [hs]; omega
    refine ⟨?_, by simp [World.frozen?, hg], fun x => ⟨⟨⟨by simp, Or.inr ⟨r, cap, cur.setIfInBounds j (.bool x), by rw [List.length_set], hb, heap_setCell_same w r j cur _ _ hg, by rw [List.length_set]; exact hc, hm, by simpa using hs, ?_⟩⟩⟩, ⟨rfl, rfl, rfl, by simp, fun q hq => heap_setCell_other _ _ _ _ (show q ≠ r from fun e => by omega)⟩⟩⟩
    · have e2 : (l.map Value.bool)[j]? = some (.bool (l.getD j false)) := by
        rw [List.getElem?_map, List.getElem?_eq_getElem hj, List.getD_eq_getElem?_getD, List.getElem?_eq_getElem hj]; rfl
      rw [← ht, List.getElem?_take_of_lt (by omega)] at e2
      exact cell_of hg _ (by simpa using e2)
    · rw [List.length_set, Array.toList_setIfInBounds, List.take_set, ht, List.map_set]
def mark1 (g : Nat) (nd : List Bool) (x : Int) : List Bool := if (g : Int) ≤ x then nd.set (x - (g : Int)).toNat true else nd
def mark (g : Nat) (nd : List Bool) (F : List Int) : List Bool := F.foldl (mark1 g) nd
/-- What needed has marked behind k rounds. -/
def nedS (g : Nat) (L : List (List Int)) : Nat → List Bool
  | 0 => (List.replicate L.length false).set (L.length - 1) true
  | k + 1 => if (nedS g L k).getD (L.length - 1 - k) false then mark g (nedS g L k) (L.getD (L.length - 1 - k) []) else nedS g L k
theorem mark_len (g : Nat) : ∀ (F : List Int) (nd : List Bool), (mark g nd F).length = nd.length
  | [], nd => rfl
  | x :: F, nd => by
    show (mark g (mark1 g nd x) F).length = _
    rw [mark_len g F]; unfold mark1; split <;> simp
theorem nedS_len (g : Nat) (L : List (List Int)) : ∀ k, (nedS g L k).length = L.length
  | 0 => by simp [nedS]
  | k + 1 => by
    unfold nedS
    split
    · rw [mark_len, nedS_len g L k]
    · exact nedS_len g L k
theorem mark_take {g : Nat} {nd : List Bool} {F : List Int} {j : Nat} {x : Int} (h : F[j]? = some x) : mark g nd (F.take (j + 1)) = mark1 g (mark g nd (F.take j)) x := by
  unfold mark
  rw [List.take_add_one, h, List.foldl_append]; rfl
/-- Each step names clauses ahead of its own. -/
def Ahd (g : Nat) (L : List (List Int)) : Prop := ∀ (k : Nat) F, L[k]? = some F → ∀ x ∈ F, 0 ≤ x ∧ x < (g : Int) + (k : Int)
set_option maxRecDepth 20000 in
set_option maxHeartbeats 6400000 in
theorem needed_any {w : World} {v : Value} {L : List (List Int)} (h : Lr w v L) {n : Nat} (hn : n = L.length) (h0 : 0 < n) (hnb : n ≤ 2000) (hFl : ∀ F ∈ L, F.length ≤ 2000) {g : Nat} (hg : g ≤ 2000) (hA : Ahd g L) :
    Calls Try.prog 47 #[.int .i64 (g : Int), v] w fun ev w' => ∃ T, ev = .returned (.slice (some ⟨T, 0, none⟩) n n) ∧ Bo w' w.heap.size (.slice (some ⟨T, 0, none⟩) n n) (nedS g L n) ∧ Below w.heap.size w w' := by
  have hmk : ∀ wx, (Instr.makeSlice 55 (.int .i64 (n : Int)) (.int .i64 (n : Int))).run Try.prog wx = .ok (.slice (some ⟨wx.heap.size, 0, none⟩) n n) (wx.alloc (.cells (madeCells #[.bool false] n) 4)) := fun wx => run_make_row' (P := Try.prog) 55 4 (.bool false) 1 underBools infoBool rfl .i64 .i64 n (by omega) (by omega) wx
  have HL : Hid _ := h
  obtain ⟨a, c, rfl⟩ := h.out
  rw [← hn] at HL ⊢
  have HN : Hid _ := hn
  have HFL : Hid _ := hFl
  have HAH : Hid (Ahd g L) := hA
  obtain ⟨T, hT⟩ : ∃ T, T = w.heap.size := ⟨_, rfl⟩
  obtain ⟨w1, hw1⟩ : ∃ w1, w1 = w.alloc (.cells (madeCells #[.bool false] n) 4) := ⟨_, rfl⟩
  have hmk1 : (Instr.makeSlice 55 (.int .i64 (n : Int)) (.int .i64 (n : Int))).run Try.prog w = .ok (.slice (some ⟨T, 0, none⟩) n n) w1 := by rw [hT, hw1]; exact hmk w
  have hB1 : Bo w1 w.heap.size (.slice (some ⟨T, 0, none⟩) n n) (List.replicate n false) := by rw [hT, hw1]; exact Bo.made w (by omega)
  have hb1 : Below w.heap.size w w1 := by rw [hw1]; go_grown
  obtain ⟨hc1, hf1, hp1⟩ := hB1.put (j := n - 1) (by simp; omega)
  have HP1 : Hid (Bo (w1.setCell ⟨T, n - 1, none⟩ (.bool true)) w.heap.size (.slice (some ⟨T, 0, none⟩) n n) (nedS g L 0) ∧ Below w.heap.size w (w1.setCell ⟨T, n - 1, none⟩ (.bool true))) := by
    obtain ⟨p1, p2⟩ := hp1 true
    refine ⟨?_, hb1.trans p2⟩
    unfold nedS
    rw [← HN.out]; exact p1
  have hlast : (n : Int) - 1 = ((n - 1 : Nat) : Int) := by omega
  obtain ⟨l1, hl1⟩ : ∃ l, l = n - 1 := ⟨_, rfl⟩
  rw [← hl1] at hc1 hf1 HP1 hlast
  have hl1n : l1 < n := by omega
  have HL1 : Hid (l1 = n - 1) := hl1
  have hl1I : (l1 : Int) < (n : Int) := by omega
  clear h hn hFl hA hmk hT hw1 hB1 hb1 hp1 hl1
  go_enter Try.func47, Try.ntmps47
  go_wp2_with fail
  go_loopw [22] (fun i wr => ∃ k : Nat, k ≤ n ∧ i = .int .i64 (k : Int) ∧ Hid (Bo wr w.heap.size (.slice (some ⟨T, 0, none⟩) n n) (nedS g L k) ∧ Below w.heap.size w wr)) (fun i wr => n - (intOf i).toNat)
  case atStart => exact ⟨0, Nat.zero_le _, rfl, HP1.out⟩
  case round =>
    obtain ⟨k, hk, rfl, hH⟩ := hrel
    by_cases hlt : k < n
    · have hltI : (k : Int) < (n : Int) := by omega
      obtain ⟨q, hq⟩ : ∃ q, q = l1 - k := ⟨_, rfl⟩
      have hsub : (l1 : Int) - (k : Int) = (q : Int) := by have := HL1.out; omega
      have hqn : q < n := by omega
      have hqI : (q : Int) < (n : Int) := by omega
      have HQ : Hid (q = L.length - 1 - k) := by unfold Hid; rw [← HN.out, ← HL1.out]; exact hq
      obtain ⟨F, hF⟩ : ∃ F, L[q]? = some F := ⟨_, List.getElem?_eq_getElem (by rw [← HN.out]; exact hqn)⟩
      have HFB := HFL.out F (List.mem_of_getElem? hF)
      obtain ⟨r, o, u, rfl, hcu, hSu⟩ := (HL.out.below hH.out.2).at' hF
      have HSW : Hid (Sr w u F) := HL.out.old hF hH.out.2 hcu
      obtain ⟨au, cu, hue⟩ := hSu.out
      obtain ⟨nu, hnu⟩ : ∃ n, n = F.length := ⟨_, rfl⟩
      rw [← hnu] at hue HFB
      have HNU : Hid _ := hnu
      subst hue
      have hro : r < wr.heap.size := World.block_lt_of_cell? _ _ hcu
      obtain ⟨hcq, -, -⟩ := hH.out.1.put (j := q) (by rw [nedS_len, ← HN.out]; exact hqn)
      obtain ⟨b, hb⟩ : ∃ b, b = (nedS g L k).getD q false := ⟨_, rfl⟩
      rw [← hb] at hcq
      have HFq : Hid (L[q]? = some F) := hF
      have HAF : Hid (∀ x ∈ F, 0 ≤ x ∧ x < (g : Int) + (q : Int)) := HAH.out q F hF
      have HNX : Hid (nedS g L (k + 1) = if b then mark g (nedS g L k) F else nedS g L k) := by
        unfold Hid
        rw [nedS, ← HQ.out, ← hb, List.getD_eq_getElem?_getD, hF]; rfl
      clear hF hSu hnu hb hq
      cases b with
      | false =>
        have HN1 : Hid (nedS g L (k + 1) = nedS g L k) := HNX.out
        go_wp2_with fail
        refine ⟨⟨k + 1, by omega, by go_num, by rw [HN1.out]; exact hH.out.1, hH.out.2⟩, by simp [intOf]; omega⟩
      | true =>
        have HN1 : Hid (nedS g L (k + 1) = mark g (nedS g L k) F) := HNX.out
        obtain ⟨wQ, hwQ⟩ : ∃ wQ, wQ = wr := ⟨_, rfl⟩
        subst hwQ
        go_wp2_with fail
        go_loopw [39] (fun i wr => ∃ j : Nat, j ≤ nu ∧ i = .int .i64 (j : Int) ∧ Hid (Bo wr w.heap.size (.slice (some ⟨T, 0, none⟩) n n) (mark g (nedS g L k) (F.take j)) ∧ Below w.heap.size w wr)) (fun i wr => nu - (intOf i).toNat)
        case atStart => exact ⟨0, Nat.zero_le _, rfl, hH.out⟩
        case round =>
          obtain ⟨j, hj, rfl, hJ⟩ := hrel
          by_cases hlt2 : j < nu
          · have hltJ : (j : Int) < (nu : Int) := by omega
            have hjl : j < F.length := by rw [← HNU.out]; exact hlt2
            obtain ⟨r2, o2, rfl, hcj⟩ := HSW.out.at' hJ.out.2 hjl
            have hr2 : r2 < wr.heap.size := World.block_lt_of_cell? _ _ hcj
            obtain ⟨hx0, hx1⟩ := HAF.out _ (getD_in hjl)
            have HMT : Hid _ := mark_take (g := g) (nd := nedS g L k) (at_getD hjl)
            obtain ⟨x, hx⟩ : ∃ x : Nat, F.getD j 0 = (x : Int) := ⟨(F.getD j 0).toNat, by omega⟩
            rw [hx] at hcj hx0 hx1 HMT
            clear hx hjl
            by_cases hge : g ≤ x
            · have hgeI : (g : Int) ≤ (x : Int) := by omega
              obtain ⟨y, hy⟩ : ∃ y, y = x - g := ⟨_, rfl⟩
              have hyI : (x : Int) - (g : Int) = (y : Int) := by omega
              have hyn : y < n := by omega
              have hynI : (y : Int) < (n : Int) := by omega
              obtain ⟨hcy, hfy, hpy⟩ := hJ.out.1.put (j := y) (by rw [mark_len, nedS_len, ← HN.out]; exact hyn)
              have HE : Hid (Bo (wr.setCell ⟨T, y, none⟩ (.bool true)) w.heap.size (.slice (some ⟨T, 0, none⟩) n n) (mark g (nedS g L k) (F.take (j + 1))) ∧ Below w.heap.size w (wr.setCell ⟨T, y, none⟩ (.bool true))) := by
                obtain ⟨p1, p2⟩ := hpy true
                refine ⟨?_, hJ.out.2.trans p2⟩
                rw [HMT.out]
                unfold mark1
                rw [if_pos hgeI, hyI, Int.toNat_natCast]; exact p1
              clear hpy hy
              go_wp2_with fail
              refine ⟨⟨j + 1, by omega, by go_num, HE.out⟩, by simp [intOf]; omega⟩
            · have hgeI : ¬ (g : Int) ≤ (x : Int) := by omega
              have HE : Hid (mark g (nedS g L k) (F.take (j + 1)) = mark g (nedS g L k) (F.take j)) := by
                unfold Hid
                rw [HMT.out]
                unfold mark1
                rw [if_neg hgeI]
              go_wp2_with fail
              refine ⟨⟨j + 1, by omega, by go_num, by rw [HE.out]; exact hJ.out.1, hJ.out.2⟩, by simp [intOf]; omega⟩
          · obtain rfl : j = nu := by omega
            have hltJ : ¬ (j : Int) < (j : Int) := by omega
            have HE : Hid (Bo wr w.heap.size (.slice (some ⟨T, 0, none⟩) n n) (nedS g L (k + 1)) ∧ Below w.heap.size w wr) := by
              refine ⟨?_, hJ.out.2⟩
              have := hJ.out.1
              rw [HNU.out, List.take_length] at this
              rw [HN1.out]; exact this
            go_wp2_with fail
            refine ⟨⟨k + 1, by omega, by go_num, HE.out⟩, by simp [intOf]; omega⟩
    · obtain rfl : k = n := by omega
      have hltI : ¬ (k : Int) < (k : Int) := by omega
      go_wp2_with fail
      go_ret
      exact ⟨T, rfl, hH.out.1, hH.out.2⟩
end Go.Proofs.Ythdgmkjjpmigeaa
