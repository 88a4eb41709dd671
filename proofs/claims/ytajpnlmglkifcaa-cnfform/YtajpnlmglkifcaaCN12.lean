/- Contracts (the law's run): the run's struct, its lists; Spoil; lists appended. -/
import Derived.Test.YtajpnlmglkifcaaCN11
import Derived.Test.YtajpnlmglkifcaaLin2
namespace Go.Proofs.Ytajpnlmglkifcaa
open Go.RowKit
set_option linter.unusedSimpArgs false
set_option linter.unusedVariables false

/-- What has come of a script: the graph's nodes, the greatest variable, the variables, the told literals, all clauses, the roots. -/
structure Rz where
  ks : List Kd
  vars : Int
  V : Int → Option Int
  T : List Nat
  C : List (List Int)
  Lt : List Nat
  Rs : List Int
/-- The run at block X: all of it lies from B on; each block has a colour, so that no two things share one. -/
structure RnX (w : World) (B X g e mo mv mp : Nat) (F : Nat → Prop) (col : Nat → Nat) (va vl vr : Value) (us : List Value) (s : Rz) : Prop where
  hd : w.heap[X]? = some (.cells #[.pointer (some ⟨g, 0, none⟩), .pointer (some ⟨e, 0, none⟩), va, vl, vr, .bool true] 33 (0, 0))
  gr : Gr w F g mo s.ks
  en : En w e g s.vars mv mp s.V (polF s.T)
  al : Ls w B va us s.C
  li : Is' w B vl (nats s.Lt)
  ro : Is' w B vr s.Rs
  cF : ∀ k, F k → k < w.heap.size ∧ col k = 0 ∧ B ≤ k
  ce : col e = 1 ∧ B ≤ e
  cv : col mv = 2 ∧ B ≤ mv
  cp : col mp = 3 ∧ B ≤ mp
  cX : col X = 4 ∧ B ≤ X
  ca : ∀ k, va.ownBlock = some k → col k = 5
  cu : ∀ u ∈ us, ∀ k, u.ownBlock = some k → col k = 5
  cl : ∀ k, vl.ownBlock = some k → col k = 6
  cr : ∀ k, vr.ownBlock = some k → col k = 7
def Rn (w : World) (B X g e mo mv mp : Nat) (s : Rz) : Prop := ∃ F col va vl vr us, RnX w B X g e mo mv mp F col va vl vr us s
theorem Ls.own {w w' : World} {B : Nat} {v : Value} {us : List Value} {C : List (List Int)} (h : Ls w B v us C) (hk : ∀ k, k < w.heap.size → (v.ownBlock = some k ∨ ∃ u ∈ us, u.ownBlock = some k) → w'.heap[k]? = w.heap[k]?) : Ls w' B v us C :=
  ⟨row_own h.row (fun k e => hk k (h.row.lt k e).2 (Or.inl e)), h.len, fun i u c hu hc => ⟨row_own (h.cl i u c hu hc).1 (fun k e => hk k ((h.cl i u c hu hc).1.lt k e).2 (Or.inr ⟨u, List.mem_of_getElem? hu, e⟩)), (h.cl i u c hu hc).2⟩⟩
section
variable {w w' : World} {B X g e mo mv mp : Nat} {F : Nat → Prop} {col : Nat → Nat} {va vl vr : Value} {us : List Value} {s : Rz}
theorem RnX.lt (h : RnX w B X g e mo mv mp F col va vl vr us s) : X < w.heap.size := (Array.getElem?_eq_some_iff.1 h.hd).1
theorem RnX.below (h : RnX w B X g e mo mv mp F col va vl vr us s) (hb : Below w.heap.size w w') : RnX w' B X g e mo mv mp F col va vl vr us s :=
  ⟨(hb.block X h.lt).trans h.hd, h.gr.below hb, h.en.below hb, h.al.below hb, row_kept h.li hb.block, row_kept h.ro hb.block, fun k hk => ⟨Nat.lt_of_lt_of_le (h.cF k hk).1 hb.size, (h.cF k hk).2⟩, h.ce, h.cv, h.cp, h.cX, h.ca, h.cu, h.cl, h.cr⟩
theorem Rn.below (h : Rn w B X g e mo mv mp s) (hb : Below w.heap.size w w') : Rn w' B X g e mo mv mp s := by
  obtain ⟨F, col, va, vl, vr, us, h⟩ := h
  exact ⟨F, col, va, vl, vr, us, h.below hb⟩
end
/-- Something is appended to a list of lists. -/
theorem app_lists (w : World) (ty : TypeId) {base n m c : Nat} {v : Value} {xs news : List Value} {ad : Option Addr} (hown : w.ownsRow base 31 1 v n xs) (hl : news.length = m) (ha : news = [] ∨ ∃ a, ad = some a ∧ ∀ j u, news[j]? = some u → w.cell? (a.add j) = some u) (h1 : ∀ u ∈ news, u.oneCell' = true) (hn : n + m ≤ 1000000) (hbase : base ≤ w.heap.size) :
    ∃ v' w', (Builtin.append_ #[30, 30] ty #[v, .slice ad m c]).run Try.prog w = .ok v' w' ∧ w'.ownsRow base 31 1 v' (n + m) (xs ++ news) ∧ w.grownBy w' v.ownBlock ∧ (v'.ownBlock = v.ownBlock ∨ v'.ownBlock = some w.heap.size) := by
  obtain ⟨i, hi, hz, hs, hb⟩ := info_any infoList
  have go : ∀ (a : Addr), (∀ j u, news[j]? = some u → w.cell? (a.add j) = some u) → ∃ v' w', (Builtin.append_ #[30, 30] ty #[v, .slice (some a) m c]).run Try.prog w = .ok v' w' ∧ w'.ownsRow base 31 1 v' (n + m) (xs ++ news) ∧ w.grownBy w' v.ownBlock ∧ (v'.ownBlock = v.ownBlock ∨ v'.ownBlock = some w.heap.size) := by
    intro a ha
    obtain ⟨v', w', h2, h3, h4, -, h5⟩ := run_append_own_at (P := Try.prog) w base 30 ty 31 i _ 1 24 underLists hi hz hs hb rfl (by decide) v n xs hown a m c news (by rw [hl, Nat.mul_one]) ha h1 (by unfold maxLen; omega) (by omega) hbase
    exact ⟨v', w', h2, h3, h4, h5⟩
  rcases ha with h | ⟨a, rfl, ha⟩
  · cases ad with
    | none =>
      subst h
      subst hl
      refine ⟨v, w, ?_, by simpa using hown, ⟨rfl, rfl, rfl, Nat.le_refl _, fun _ _ _ => rfl⟩, Or.inl rfl⟩
      rcases hown.2 with ⟨rfl, rfl⟩ | ⟨g, cap, cur, rfl, hbg, hg, hnc, hcm, hcs, htake⟩
      · simp [Builtin.append_, run_underlying underLists, sizeOf, typeInfo, hi, Builtin.lenOf, Builtin.firstCells]
      · simp [Builtin.append_, run_underlying underLists, sizeOf, typeInfo, hi, Builtin.lenOf, Builtin.firstCells, hnc, storeCells]
    | some a => exact go a (fun j u e => by rw [h] at e; simp at e)
  · exact go a ha
/-- A list of lists, another one's lists appended. -/
theorem Ls.app {w w' : World} {B B2 : Nat} {v v2 v' : Value} {us us2 : List Value} {C C2 : List (List Int)} (h : Ls w B v us C) (h2 : Ls w B2 v2 us2 C2) (hB : B ≤ B2) (hv : ∀ k, v.ownBlock = some k → k < B2) (hus : ∀ u ∈ us, ∀ k, u.ownBlock = some k → k < B2) (hown : w'.ownsRow B 31 1 v' (us.length + us2.length) (us ++ us2)) (hg : w.grownBy w' v.ownBlock) (hat : v'.ownBlock = v.ownBlock ∨ v'.ownBlock = some w.heap.size) :
    Ls w' B v' (us ++ us2) (C ++ C2) := by
  refine ⟨by rw [List.length_append]; exact hown, by rw [List.length_append, List.length_append, h.len, h2.len], fun i y c hy hc => ?_⟩
  have key : ∀ q, q < w.heap.size → v.ownBlock ≠ some q → w'.heap[q]? = w.heap[q]? ∧ v'.ownBlock ≠ some q := fun q hq hn => by
    refine ⟨hg.block q hq (fun e => hn e.symm), fun e => ?_⟩
    rcases hat with e2 | e2
    · exact hn (e2.symm.trans e)
    · rw [e2] at e; injection e with e; omega
  by_cases hi : i < us.length
  · rw [List.getElem?_append_left hi] at hy
    rw [List.getElem?_append_left (by rw [← h.len]; exact hi)] at hc
    obtain ⟨e1, e2⟩ := h.cl i y c hy hc
    exact ⟨row_own e1 (fun q hq => (key q (e1.lt q hq).2 (e2 q hq)).1), fun q hq => (key q (e1.lt q hq).2 (e2 q hq)).2⟩
  · rw [List.getElem?_append_right (by omega)] at hy
    rw [List.getElem?_append_right (by rw [← h.len]; omega), ← h.len] at hc
    obtain ⟨e1, e2⟩ := h2.cl _ y c hy hc
    have hne : ∀ q, y.ownBlock = some q → v.ownBlock ≠ some q := fun q hq e => by
      have := hv q e
      have := (e1.lt q hq).1
      omega
    exact ⟨own_mono (row_own e1 (fun q hq => (key q (e1.lt q hq).2 (hne q hq)).1)) hB, fun q hq => (key q (e1.lt q hq).2 (hne q hq)).2⟩
theorem Ls.sl {w : World} {B : Nat} {v : Value} {us : List Value} {C : List (List Int)} (h : Ls w B v us C) : ∃ a c, v = .slice a C.length c ∧ (us = [] ∨ ∃ r, a = some ⟨r, 0, none⟩ ∧ B ≤ r ∧ r < w.heap.size ∧ ∀ (j : Nat) (u : Value), us[j]? = some u → w.cell? ⟨r, j, none⟩ = some u) := by
  rcases h.row.2 with ⟨e1, h0⟩ | ⟨g, cap, cur, e1, hb, hg, hcp, hm, hs, ht⟩
  · exact ⟨none, 0, by rw [e1, ← h.len, h0], Or.inl (List.eq_nil_of_length_eq_zero h0)⟩
  · refine ⟨_, _, by rw [e1, h.len], Or.inr ⟨g, rfl, hb, (Array.getElem?_eq_some_iff.1 hg).1, fun j u hj => ?_⟩⟩
    have hjl : j < us.length := (List.getElem?_eq_some_iff.1 hj).1
    have h2 : (cur.toList.take (us.length * 1))[j]? = some u := by rw [ht]; exact hj
    rw [List.getElem?_take_of_lt (by omega)] at h2
    exact cell_of hg j (by simpa using h2)
theorem Ls.ones {w : World} {B : Nat} {v : Value} {us : List Value} {C : List (List Int)} (h : Ls w B v us C) : ∀ u ∈ us, u.oneCell' = true := by
  intro u hu
  obtain ⟨i, hi⟩ := List.mem_iff_getElem?.1 hu
  have hil : i < C.length := by rw [← h.len]; exact (List.getElem?_eq_some_iff.1 hi).1
  obtain ⟨a, m, k, rfl⟩ := own_slice (h.cl i u _ hi (List.getElem?_eq_getElem hil)).1
  rfl
/-- Spoil writes over a list. -/
theorem spoil_any {w : World} {r c n : Nat} {A : Array Value} {t : TypeId} (hr : w.heap[r]? = some (.cells A t (0, 0))) (hz : A.size = n) (hl : n ≤ 1000) :
    Calls Try.prog 50 #[.slice (some ⟨r, 0, none⟩) n c] w fun ev w' => ev = .returned (.tuple #[]) ∧ (∃ A' : Array Value, w'.heap[r]? = some (.cells A' t (0, 0)) ∧ A'.size = n) ∧ Tn w w' (fun q => q = r) := by
  have hlt : r < w.heap.size := (Array.getElem?_eq_some_iff.1 hr).1
  go_enter Try.func50, Try.ntmps50
  go_wp2_with fail
  go_loopw [2] (fun i wr => ∃ k : Nat, k ≤ n ∧ i = .int .i64 (k : Int) ∧ Hid (∃ A : Array Value, wr.heap[r]? = some (.cells A t (0, 0)) ∧ A.size = n ∧ Tn w wr (fun q => q = r))) (fun i wr => n - (intOf i).toNat)
  case atStart => exact ⟨0, Nat.zero_le _, rfl, A, hr, hz, Tn.refl _ _⟩
  case round =>
    obtain ⟨k, hk, rfl, A', hA1, hA2, hA3⟩ := hrel
    by_cases hlt2 : k < n
    · have c0 : ∃ u, wr.cell? ⟨r, k, none⟩ = some u := ⟨_, cell_of hA1 k (Array.getElem?_eq_getElem (by omega))⟩
      obtain ⟨u0, c0⟩ := c0
      have f0 : wr.frozen? ⟨r, k, none⟩ = false := by simp [World.frozen?, hA1]
      have hltI : (k : Int) < (n : Int) := by omega
      have hrl : r < wr.heap.size := Nat.lt_of_lt_of_le hlt hA3.size
      have HA : Hid (Tn w wr (fun q => q = r)) := hA3
      have HA1 : Hid _ := hA1
      clear hA1 hA3
      go_wp2_with fail
      refine ⟨⟨k + 1, by omega, by go_num, _, heap_setCell_same wr r k _ _ _ HA1.out, by simp [hA2], ?_⟩, by simp [intOf]; omega⟩
      exact HA.out.trans ⟨rfl, rfl, rfl, by simp, fun q hq hn => heap_setCell_other _ _ _ _ (by exact hn)⟩
    · obtain rfl : k = n := by omega
      have hltI : ¬ (k : Int) < (k : Int) := by omega
      go_wp2_with fail
      go_end0
      exact ⟨by first | rfl | trivial, ⟨A', hA1, hA2⟩, hA3⟩
end Go.Proofs.Ytajpnlmglkifcaa
