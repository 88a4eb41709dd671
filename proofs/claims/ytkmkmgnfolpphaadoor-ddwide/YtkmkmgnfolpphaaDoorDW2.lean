/- Contracts (dd): numbers of several pieces. -/
import Derived.Test.YtkmkmgnfolpphaaDoorDE1
namespace Go.Proofs.YtkmkmgnfolpphaaDoor
open Go.RowKit
set_option linter.unusedSimpArgs false
set_option linter.unusedVariables false

abbrev E18 : Nat := 1000000000000000000
/-- A sum by pieces, the lowest first; what was carried. -/
def sumC : Nat → List Nat → List Nat → List Nat
  | c, a :: xs, b :: ys => (a + b + c) % E18 :: sumC ((a + b + c) / E18) xs ys
  | _, _, _ => []
def sumF (a b : List Nat) : List Nat := sumC 0 a b
/-- Half of a number by pieces; what is left. -/
def halfC : List Nat → List Nat × Nat
  | [] => ([], 0)
  | x :: xs => ((x + (halfC xs).2 * E18) / 2 :: (halfC xs).1, (x + (halfC xs).2 * E18) % 2)
def meanF (a b : List Nat) : List Nat := (halfC (sumF a b)).1
def Sm (l : List Nat) : Prop := ∀ x ∈ l, x < E18
theorem sumC_len : ∀ (c : Nat) (a b : List Nat), a.length = b.length → (sumC c a b).length = a.length
  | _, [], [], _ => rfl
  | c, a :: xs, b :: ys, h => by simp only [sumC, List.length_cons]; rw [sumC_len _ xs ys (by simpa using h)]
theorem sumC_sm : ∀ (c : Nat) (a b : List Nat), Sm (sumC c a b)
  | _, [], _, x, h => by simp [sumC] at h
  | _, _ :: _, [], x, h => by simp [sumC] at h
  | c, a :: xs, b :: ys, x, h => by
    simp only [sumC, List.mem_cons] at h
    rcases h with rfl | h
    · exact Nat.mod_lt _ (by decide)
    · exact sumC_sm _ xs ys x h
theorem halfC_len : ∀ l : List Nat, (halfC l).1.length = l.length
  | [] => rfl
  | x :: xs => by simp only [halfC, List.length_cons]; rw [halfC_len xs]
theorem halfC_two : ∀ l : List Nat, (halfC l).2 < 2
  | [] => by decide
  | x :: xs => Nat.mod_lt _ (by decide)
theorem halfC_sm : ∀ l : List Nat, Sm l → Sm (halfC l).1
  | [], _, x, h => nomatch h
  | y :: ys, hs, x, h => by
    simp only [halfC, List.mem_cons] at h
    rcases h with rfl | h
    · have h1 := hs y (by simp)
      have h2 := halfC_two ys
      have : (halfC ys).2 * E18 ≤ 1 * E18 := Nat.mul_le_mul_right _ (by omega)
      unfold E18 at *
      omega
    · exact halfC_sm ys (fun z hz => hs z (List.mem_cons_of_mem _ hz)) x h
/-- v holds a number's pieces. -/
structure Ud (w : World) (v : Value) (l : List Nat) : Prop where
  ex : ∃ r o c, v = .slice (some ⟨r, o, none⟩) l.length c ∧ r < w.heap.size ∧ ∀ j, j < l.length → w.cell? ⟨r, o + j, none⟩ = some (.int .u64 ((l.getD j 0 : Nat) : Int))
theorem Ud.bel {w w' : World} {v : Value} {l : List Nat} (h : Ud w v l) (hb : Below w.heap.size w w') : Ud w' v l := by
  obtain ⟨r, o, c, e, h1, h2⟩ := h.ex
  exact ⟨r, o, c, e, Nat.lt_of_lt_of_le h1 hb.size, fun j hj => by rw [hb.cell (p := ⟨r, o + j, none⟩) h1]; exact h2 j hj⟩
/-- .. of the call's own. -/
structure Uo (w : World) (B : Nat) (v : Value) (l : List Nat) : Prop where
  ex : ∃ r, v = .slice (some ⟨r, 0, none⟩) l.length l.length ∧ B ≤ r ∧ w.rowIs r 102 l.length (fun j => .int .u64 ((l.getD j 0 : Nat) : Int))
theorem Uo.ud {w : World} {B : Nat} {v : Value} {l : List Nat} (h : Uo w B v l) : Ud w v l := by
  obtain ⟨r, e, h1, h2⟩ := h.ex
  exact ⟨r, 0, _, e, h2.lt, fun j hj => by rw [Nat.zero_add]; exact h2.cell hj⟩
theorem Uo.mono {w : World} {B B' : Nat} {v : Value} {l : List Nat} (h : Uo w B v l) (hB : B' ≤ B) : Uo w B' v l := by
  obtain ⟨r, e, h1, h2⟩ := h.ex
  exact ⟨r, e, Nat.le_trans hB h1, h2⟩
theorem infoU2 : (Tryd.prog.info? 102).map (fun i => (i.zero, i.size, i.bytes)) = some (some (.int .u64 0), 1, 8) := by kernel_rfl
theorem underDec2 : Tryd.prog.underlying 87 = some (.slice 102) := by kernel_rfl
theorem makeP (n : Nat) (hn : n ≤ 1000) (wx : World) : (Instr.makeSlice 87 (.int .i64 (n : Int)) (.int .i64 (n : Int))).run Tryd.prog wx = .ok (.slice (some ⟨wx.heap.size, 0, none⟩) n n) (wx.alloc (.cells (madeCells #[.int .u64 0] n) 102)) :=
  run_make_row' (P := Tryd.prog) 87 102 (.int .u64 0) 8 underDec2 infoU2 rfl .i64 .i64 n (by omega) (by omega) wx
theorem getD_some {l : List Nat} {k : Nat} {x : Nat} (h : l.getD k 0 = x) (hk : k < l.length) : l[k]? = some x := by
  rw [List.getD_eq_getElem?_getD, List.getElem?_eq_getElem hk] at h
  rw [List.getElem?_eq_getElem hk, ← h]; rfl
theorem drop_cons' {l : List Nat} {k : Nat} (hk : k < l.length) : l.drop k = l.getD k 0 :: l.drop (k + 1) := by
  rw [List.drop_eq_getElem_cons hk, List.getD_eq_getElem?_getD, List.getElem?_eq_getElem hk]; rfl
set_option maxRecDepth 20000 in
set_option maxHeartbeats 3200000 in
theorem sumP {w : World} {u v : Value} {a b : List Nat} (hu : Ud w u a) (hv : Ud w v b) (hl : a.length = b.length) (ha : Sm a) (hb : Sm b) (hP : a.length ≤ 1000) :
    Calls Tryd.prog 62 #[u, v] w fun e w' => ∃ t, e = .returned t ∧ Uo w' w.heap.size t (sumF a b) ∧ Below w.heap.size w w' := by
  obtain ⟨ru, ou, cu, rfl, hru, hcu⟩ := hu.ex
  obtain ⟨rv, ov, cv, rfl, hrv, hcv⟩ := hv.ex
  have HCU : Hid _ := hcu
  have HCV : Hid _ := hcv
  have HA : Hid (Sm a) := ha
  have HB : Hid (Sm b) := hb
  obtain ⟨P, hPe⟩ : ∃ P, P = a.length := ⟨_, rfl⟩
  have HPA : Hid (P = a.length) := hPe
  have HPB : Hid (P = b.length) := hPe.trans hl
  obtain ⟨S, hS⟩ : ∃ S, S = sumF a b := ⟨_, rfl⟩
  have HS : Hid (S = sumC 0 a b) := hS
  have HSL : Hid (P = S.length) := by unfold Hid; rw [hS, sumF, sumC_len 0 a b hl, hPe]
  have hmk := makeP P (by omega)
  rw [← hS, ← hl, ← hPe]
  rw [← hPe] at hP
  clear hu hv hcu hcv ha hb hPe hS hl
  go_enter Tryd.func62, Tryd.ntmps62
  go_wp2_with fail
  go_loopw [13, 6] (fun i cr wr => ∃ (k c : Nat), k ≤ P ∧ i = .int .i64 (k : Int) ∧ cr = .int .u64 (c : Int) ∧ c ≤ 1 ∧ Hid (S.drop k = sumC c (a.drop k) (b.drop k)) ∧ Hid (wr.rowIs w.heap.size 102 P (fun j => .int .u64 ((if j < k then S.getD j 0 else 0 : Nat) : Int))) ∧ Below w.heap.size w wr) (fun i cr wr => P - (intOf i).toNat)
  case atStart =>
    refine ⟨0, 0, Nat.zero_le _, rfl, rfl, Nat.zero_le _, by unfold Hid; rw [HS.out]; rfl, ?_, by go_grown⟩
    exact (World.rowIs_made w (.int .u64 0) P 102).congr fun i _ => by simp
  case round =>
    obtain ⟨k, c, hk, rfl, rfl, hc, hd, hrow, hB⟩ := hrel
    by_cases hlt : k < P
    · obtain ⟨x, hx⟩ : ∃ x, x = a.getD k 0 := ⟨_, rfl⟩
      obtain ⟨y, hy⟩ : ∃ y, y = b.getD k 0 := ⟨_, rfl⟩
      have hka : k < a.length := by rw [← HPA.out]; exact hlt
      have hkb : k < b.length := by rw [← HPB.out]; exact hlt
      have hks : k < S.length := by rw [← HSL.out]; exact hlt
      have cx : wr.cell? ⟨ru, ou + k, none⟩ = some (.int .u64 (x : Int)) := by rw [hx]; exact bel_cell hB hru (HCU.out k hka)
      have cy : wr.cell? ⟨rv, ov + k, none⟩ = some (.int .u64 (y : Int)) := by rw [hy]; exact bel_cell hB hrv (HCV.out k hkb)
      have hxs : x < E18 := by rw [hx, List.getD_eq_getElem?_getD, List.getElem?_eq_getElem hka]; exact HA.out _ (List.getElem_mem hka)
      have hys : y < E18 := by rw [hy, List.getD_eq_getElem?_getD, List.getElem?_eq_getElem hkb]; exact HB.out _ (List.getElem_mem hkb)
      have HD2 : Hid (S.getD k 0 = (x + y + c) % E18 ∧ S.drop (k + 1) = sumC ((x + y + c) / E18) (a.drop (k + 1)) (b.drop (k + 1))) := by
        have h := hd.out
        rw [drop_cons' hka, drop_cons' hkb, drop_cons' hks, ← hx, ← hy] at h
        simp only [sumC, List.cons.injEq] at h
        exact h
      have d0 : wr.cell? ⟨w.heap.size, k, none⟩ = some (.int .u64 0) := by
        have h := hrow.out.cell hlt
        rw [if_neg (by omega)] at h; exact h
      have f0 : wr.frozen? ⟨w.heap.size, k, none⟩ = false := hrow.out.frozen k
      have hrs := hrow.out.lt
      have n1 : ru ≠ w.heap.size := by omega
      have n2 : rv ≠ w.heap.size := by omega
      have hltI : (k : Int) < (P : Int) := by omega
      unfold E18 at hxs hys
      have e1 : IntKind.u64.wrap ((x : Int) + (y : Int)) = (x : Int) + (y : Int) := by rw [IntKind.wrap_u64]; omega
      have e2 : IntKind.u64.wrap ((x : Int) + (y : Int) + (c : Int)) = (x : Int) + (y : Int) + (c : Int) := by rw [IntKind.wrap_u64]; omega
      obtain ⟨q, hq⟩ : ∃ q, q = (x + y + c) / E18 := ⟨_, rfl⟩
      obtain ⟨r, hr⟩ : ∃ r, r = (x + y + c) % E18 := ⟨_, rfl⟩
      rw [← hq, ← hr] at HD2
      unfold E18 at hq hr
      have e3 : ((x : Int) + (y : Int) + (c : Int)).tdiv 1000000000000000000 = (q : Int) := by rw [Int.tdiv_eq_ediv_of_nonneg (by omega)]; omega
      have e4 : ((x : Int) + (y : Int) + (c : Int)).tmod 1000000000000000000 = (r : Int) := by rw [Int.tmod_eq_emod_of_nonneg (by omega)]; omega
      have e3' : ((x : Int) + (y : Int) + (c : Int)) / 1000000000000000000 = (q : Int) := by omega
      have e4' : ((x : Int) + (y : Int) + (c : Int)) % 1000000000000000000 = (r : Int) := by omega
      have e5 : IntKind.u64.wrap (q : Int) = (q : Int) := by rw [IntKind.wrap_u64]; omega
      have e6 : IntKind.u64.wrap (r : Int) = (r : Int) := by rw [IntKind.wrap_u64]; omega
      have hc2 : q ≤ 1 := by omega
      clear hx hy hka hkb hks hd hq hr hxs hys
      go_wp2_with fail
      go_region
      all_goals
        go_wp2_with fail
        refine ⟨⟨k + 1, q, by omega, by go_num, rfl, hc2, HD2.out.2, ?_, by go_grown⟩, by simp [intOf]; omega⟩
        refine (((hrow.out.set k _).set k _).drew).congr fun i hi => ?_
        by_cases hik : i = k
        · rw [if_pos hik, if_pos (by omega), hik, HD2.out.1]
        · rw [if_neg hik, if_neg hik]
          by_cases h2 : i < k
          · rw [if_pos h2, if_pos (by omega)]
          · rw [if_neg h2, if_neg (by omega)]
    · obtain rfl : k = P := by omega
      have hltI : ¬ (k : Int) < (k : Int) := by omega
      go_wp2_with fail
      go_ret
      refine ⟨.slice (some ⟨w.heap.size, 0, none⟩) k k, rfl, ⟨w.heap.size, by rw [← HSL.out], Nat.le_refl _, ?_⟩, hB⟩
      rw [← HSL.out]
      exact hrow.out.congr fun i hi => by rw [if_pos hi]
theorem sumF_len {a b : List Nat} (h : a.length = b.length) : (sumF a b).length = a.length := sumC_len 0 a b h
theorem meanF_len {a b : List Nat} (h : a.length = b.length) : (meanF a b).length = a.length := by unfold meanF; rw [halfC_len, sumF_len h]
theorem meanF_sm (a b : List Nat) : Sm (meanF a b) := halfC_sm _ (sumC_sm 0 a b)
set_option maxRecDepth 20000 in
set_option maxHeartbeats 3200000 in
theorem meanP {w : World} {u v : Value} {a b : List Nat} (hu : Ud w u a) (hv : Ud w v b) (hl : a.length = b.length) (ha : Sm a) (hb : Sm b) (hP : a.length ≤ 1000) :
    Calls Tryd.prog 51 #[u, v] w fun e w' => ∃ t, e = .returned t ∧ Uo w' w.heap.size t (meanF a b) ∧ Below w.heap.size w w' := by
  have HS : Hid _ := sumP hu hv hl ha hb hP
  have HZ : Hid (Sm (sumF a b)) := sumC_sm 0 a b
  obtain ⟨P, hPe⟩ : ∃ P, P = a.length := ⟨_, rfl⟩
  obtain ⟨S, hS⟩ : ∃ S, S = sumF a b := ⟨_, rfl⟩
  have HSL : Hid (P = S.length) := by unfold Hid; rw [hS, sumF_len hl, hPe]
  obtain ⟨M, hM⟩ : ∃ M, M = meanF a b := ⟨_, rfl⟩
  have HM : Hid (M = (halfC S).1) := by unfold Hid; rw [hM, hS]; rfl
  have HML : Hid (P = M.length) := by unfold Hid; rw [hM, meanF_len hl, hPe]
  have hPb : P ≤ 1000 := by omega
  rw [← hS] at HS HZ
  rw [← hM]
  clear hu hv hl ha hb hP hPe hS hM
  go_enter Tryd.func51, Tryd.ntmps51
  go_wp2_with fail
  refine Calls.mono HS.out ?_
  rintro e w1 ⟨t, rfl, hun, hb1⟩
  obtain ⟨r, rfl, hr1, hr2⟩ := hun.ex
  rw [← HSL.out] at hr2 ⊢
  have HB1 : Hid _ := hb1
  have HR2 : Hid (w1.rowIs r 102 P (fun j => .int .u64 ((S.getD j 0 : Nat) : Int))) := hr2
  have hr3 := hr2.lt
  clear hun hb1 hr2 HS
  go_wp2_with fail
  go_loopw [7, 6] (fun i c wr => ∃ (k c' : Nat), k ≤ P ∧ i = .int .i64 ((k : Int) - 1) ∧ c = .int .u64 (c' : Int) ∧ Hid (c' = (halfC (S.drop k)).2 ∧ M.drop k = (halfC (S.drop k)).1) ∧ Hid (wr.rowIs r 102 P (fun j => .int .u64 ((if j < k then S.getD j 0 else M.getD j 0 : Nat) : Int))) ∧ Below w.heap.size w wr) (fun i c wr => (intOf i + 1).toNat)
  case atStart =>
    refine ⟨P, 0, Nat.le_refl _, rfl, rfl, ⟨?_, ?_⟩, ?_, HB1.out⟩
    · rw [List.drop_eq_nil_of_le (by rw [← HSL.out]; exact Nat.le_refl _)]; rfl
    · rw [List.drop_eq_nil_of_le (by rw [← HML.out]; exact Nat.le_refl _), List.drop_eq_nil_of_le (by rw [← HSL.out]; exact Nat.le_refl _)]; rfl
    · exact HR2.out.congr fun i hi => by rw [if_pos hi]
  case round =>
    clear HR2 HB1
    obtain ⟨k, c, hk, rfl, rfl, hd, hrow, hB⟩ := hrel
    by_cases hk0 : 0 < k
    · obtain ⟨k, rfl⟩ : ∃ k', k = k' + 1 := ⟨k - 1, by omega⟩
      have hks : k < S.length := by rw [← HSL.out]; omega
      have hkm : k < M.length := by rw [← HML.out]; omega
      obtain ⟨x, hx⟩ : ∃ x, x = S.getD k 0 := ⟨_, rfl⟩
      have hxs : x < E18 := by rw [hx, List.getD_eq_getElem?_getD, List.getElem?_eq_getElem hks]; exact HZ.out _ (List.getElem_mem hks)
      have hc2 : c < 2 := by rw [hd.out.1]; exact halfC_two _
      have HD : Hid ((halfC (S.drop k)).2 = (x + c * E18) % 2 ∧ (halfC (S.drop k)).1 = (x + c * E18) / 2 :: M.drop (k + 1)) := by
        unfold Hid
        rw [drop_cons' hks, ← hx, hd.out.2, hd.out.1]
        exact ⟨rfl, rfl⟩
      have HMS : Hid (M.drop k = M.getD k 0 :: M.drop (k + 1)) := drop_cons' hkm
      have HMA : Hid (M.drop k = (halfC (S.drop k)).1) := by
        unfold Hid
        rw [HM.out]
        have key : ∀ (l : List Nat) (j : Nat), (halfC l).1.drop j = (halfC (l.drop j)).1 := fun l => by
          induction l with
          | nil => intro j; simp [halfC]
          | cons y ys ih =>
            intro j
            cases j with
            | zero => rfl
            | succ j => simp only [halfC, List.drop_succ_cons]; exact ih j
        exact key S k
      have HMV : Hid (M.getD k 0 = (x + c * E18) / 2) := by
        have h := HMA.out
        rw [HMS.out, HD.out.2] at h
        exact (List.cons.inj h).1
      have d0 : wr.cell? ⟨r, k, none⟩ = some (.int .u64 (x : Int)) := by
        have h := hrow.out.cell (i := k) (by omega)
        rw [if_pos (by omega), ← hx] at h; exact h
      have f0 : wr.frozen? ⟨r, k, none⟩ = false := hrow.out.frozen k
      have hrs := hrow.out.lt
      obtain ⟨z, hz⟩ : ∃ z, z = x + c * E18 := ⟨_, rfl⟩
      obtain ⟨q, hq⟩ : ∃ q, q = z / 2 := ⟨_, rfl⟩
      obtain ⟨m, hm⟩ : ∃ m, m = z % 2 := ⟨_, rfl⟩
      rw [← hz, ← hq] at HMV
      rw [← hz, ← hm] at HD
      have hk1 : ((k + 1 : Nat) : Int) - 1 = (k : Int) := by omega
      have hk2 : (k : Int) < (P : Int) := by omega
      have hk3 : (0 : Int) ≤ (k : Int) := by omega
      unfold E18 at hxs hz
      have e1 : IntKind.u64.wrap ((c : Int) * 1000000000000000000) = (c : Int) * 1000000000000000000 := by rw [IntKind.wrap_u64]; omega
      have e2 : IntKind.u64.wrap ((x : Int) + (c : Int) * 1000000000000000000) = (z : Int) := by rw [IntKind.wrap_u64]; omega
      have e3 : (z : Int).tmod 2 = (m : Int) := by rw [Int.tmod_eq_emod_of_nonneg (by omega)]; omega
      have e4 : (z : Int).tdiv 2 = (q : Int) := by rw [Int.tdiv_eq_ediv_of_nonneg (by omega)]; omega
      have e3' : (z : Int) % 2 = (m : Int) := by omega
      have e4' : (z : Int) / 2 = (q : Int) := by omega
      have e5 : IntKind.u64.wrap (q : Int) = (q : Int) := by rw [IntKind.wrap_u64]; omega
      have e6 : IntKind.u64.wrap (m : Int) = (m : Int) := by rw [IntKind.wrap_u64]; omega
      rw [hk1]
      clear hx hks hkm hd hz hq hm hxs hc2 HMS hk1
      go_wp2_with fail
      refine ⟨⟨k, m, by omega, by go_num, rfl, ⟨HD.out.1.symm, HMA.out⟩, ?_, by go_grown⟩, by first | (simp [intOf]; done) | (simp [intOf]; omega)⟩
      refine ((hrow.out.set k _).set k _).congr fun i hi => ?_
      by_cases hik : i = k
      · rw [if_pos hik, if_neg (by omega), hik, HMV.out]
      · rw [if_neg hik, if_neg hik]
        by_cases h2 : i < k
        · rw [if_pos (by omega), if_pos h2]
        · rw [if_neg (by omega), if_neg h2]
    · obtain rfl : k = 0 := by omega
      have hk3 : ((0 : Nat) : Int) - 1 = -1 := by decide
      rw [hk3]
      go_wp2_with fail
      go_ret
      refine ⟨.slice (some ⟨r, 0, none⟩) P P, rfl, ⟨r, by rw [← HML.out], hr1, ?_⟩, hB⟩
      rw [← HML.out]
      exact hrow.out.congr fun i hi => by rw [if_neg (by omega)]
/-- 2^n, by as many pieces. -/
def powL (P : Nat) : Nat → List Nat
  | 0 => (List.range P).map fun j => if j = 0 then 1 else 0
  | n + 1 => sumF (powL P n) (powL P n)
theorem powL_len (P : Nat) : ∀ n, (powL P n).length = P
  | 0 => by simp [powL]
  | n + 1 => by show (sumF _ _).length = _; rw [sumF_len rfl, powL_len P n]
theorem powL_sm (P : Nat) : ∀ n, Sm (powL P n)
  | 0, x, h => by
    obtain ⟨j, -, rfl⟩ := List.mem_map.1 h
    show (if _ then _ else _) < E18
    split <;> decide
  | n + 1, x, h => sumC_sm 0 _ _ x h
set_option maxRecDepth 20000 in
set_option maxHeartbeats 3200000 in
theorem powP (n : Nat) (hn : n ≤ 4096) (w : World) :
    Calls Tryd.prog 50 #[.int .i64 (n : Int)] w fun e w' => ∃ t, e = .returned t ∧ Uo w' w.heap.size t (powL (n / 59 + 1) n) ∧ Below w.heap.size w w' := by
  obtain ⟨P, hP⟩ : ∃ P, P = n / 59 + 1 := ⟨_, rfl⟩
  have e1 : ((n : Int)).tdiv 59 = (P : Int) - 1 := by rw [Int.tdiv_eq_ediv_of_nonneg (by omega)]; omega
  have e1' : (n : Int) / 59 = (P : Int) - 1 := by omega
  have e2 : IntKind.i64.wrap ((P : Int) - 1 + 1) = (P : Int) := by rw [IntKind.wrap_i64]; omega
  have e2' : (P : Int) - 1 + 1 = (P : Int) := by omega
  have hmk := makeP P (by omega)
  have h0P : (0 : Int) < (P : Int) := by omega
  have hP1 : 1 ≤ P := by omega
  have hPb : P ≤ 1000 := by omega
  rw [← hP]
  have hrow := World.rowIs_made w (.int .u64 0) P 102
  have z0 := hrow.cell (i := 0) hP1
  have zf := hrow.frozen 0
  have HROW : Hid ((w.alloc (.cells (madeCells #[.int .u64 0] P) 102)).rowIs w.heap.size 102 P (fun _ => .int .u64 0)) := hrow
  have HS : Hid (∀ wx u (k : Nat), Ud wx u (powL P k) → Calls Tryd.prog 62 #[u, u] wx fun e w' => ∃ t, e = .returned t ∧ Uo w' wx.heap.size t (powL P (k + 1)) ∧ Below wx.heap.size wx w') := fun wx u k hu => sumP hu hu rfl (powL_sm P k) (powL_sm P k) (by rw [powL_len]; exact hPb)
  clear hP hrow
  go_enter Tryd.func50, Tryd.ntmps50
  go_wp2_with fail
  go_loopw [11, 3] (fun i d wr => ∃ (k : Nat), k ≤ n ∧ i = .int .i64 (k : Int) ∧ Hid (Uo wr w.heap.size d (powL P k)) ∧ Below w.heap.size w wr) (fun i d wr => n - (intOf i).toNat)
  case atStart =>
    refine ⟨0, by omega, rfl, ⟨w.heap.size, ?_, Nat.le_refl _, ?_⟩, by go_grown⟩
    · rw [powL_len]
    · rw [powL_len]
      rw [← World.setCell_alloc_at (w := w) (madeCells #[.int .u64 0] P) 102 w.heap.size 0 (.int .u64 1) rfl]
      refine (HROW.out.set 0 _).congr fun i hi => ?_
      by_cases h : i = 0
      · rw [if_pos h, h, powL, List.getD_eq_getElem?_getD, List.getElem?_map, List.getElem?_range hP1]; rfl
      · rw [if_neg h, powL, List.getD_eq_getElem?_getD, List.getElem?_map, List.getElem?_range hi]; simp [h]
  case round =>
    clear z0 zf HROW
    obtain ⟨k, hk, rfl, hd, hB⟩ := hrel
    obtain ⟨d, hdd⟩ : ∃ d, d = u3 := ⟨_, rfl⟩
    rw [← hdd] at hd ⊢
    clear hdd
    by_cases hlt : k < n
    · have hltI : (k : Int) < (n : Int) := by omega
      have hsz := hB.size
      go_wp2_with fail
      refine Calls.mono (HS.out wr d k hd.out.ud) ?_
      rintro e w1 ⟨t, rfl, hun, hb1⟩
      have HUN : Hid (Uo w1 w.heap.size t (powL P (k + 1))) := hun.mono hsz
      have HB1 : Hid (Below w.heap.size w w1) := hB.trans (hb1.mono hsz)
      clear hun hb1
      go_wp2_with fail
      exact ⟨⟨k + 1, by omega, by go_num, HUN.out, HB1.out⟩, by simp [intOf]; omega⟩
    · obtain rfl : k = n := by omega
      have hltI : ¬ (k : Int) < (k : Int) := by omega
      go_wp2_with fail
      go_ret
      exact ⟨d, rfl, hd.out, hB⟩
end Go.Proofs.YtkmkmgnfolpphaaDoor
