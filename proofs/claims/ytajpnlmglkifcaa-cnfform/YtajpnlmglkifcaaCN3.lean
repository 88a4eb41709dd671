/- Contracts (clauses): clauses are gathered. -/
import Derived.Test.YtajpnlmglkifcaaCN2
namespace Go.Proofs.Ytajpnlmglkifcaa
open Go.RowKit
set_option linter.unusedSimpArgs false
set_option linter.unusedVariables false

theorem underLists : Try.prog.underlying 30 = some (.slice 31) := by kernel_rfl
theorem infoList : (Try.prog.info? 31).map (fun i => (i.zero, i.size, i.bytes)) = some (some (.slice none 0 0), 1, 24) := by kernel_rfl
/-- A clause in a block of its own. -/
def Cl (w : World) (B : Nat) (u : Value) (c : List Int) (g : Nat) : Prop := u = .slice (some ⟨g, 0, none⟩) c.length c.length ∧ B ≤ g ∧ w.heap[g]? = some (.cells (c.map (Value.int .i64)).toArray 3 (0, 0))
/-- What is gathered at block b: the clauses C; all of it lies from B on. -/
structure Gt (w : World) (B b : Nat) (v : Value) (us : List Value) (C : List (List Int)) : Prop where
  bb : B ≤ b
  hd : w.heap[b]? = some (.cells #[v] 77 (0, 0))
  row : w.ownsRow B 31 1 v us.length us
  len : us.length = C.length
  cl : ∀ (i : Nat) (u : Value) (c : List Int), us[i]? = some u → C[i]? = some c → ∃ g, Cl w B u c g ∧ g ≠ b ∧ v.ownBlock ≠ some g
theorem Gt.lt {w : World} {B b : Nat} {v : Value} {us : List Value} {C : List (List Int)} (h : Gt w B b v us C) : b < w.heap.size := (Array.getElem?_eq_some_iff.1 h.hd).1
theorem Gt.vb {w : World} {B b : Nat} {v : Value} {us : List Value} {C : List (List Int)} (h : Gt w B b v us C) : v.ownBlock ≠ some b := by
  intro e
  rcases h.row.2 with ⟨rfl, -⟩ | ⟨g, cap, cur, rfl, -, hg, -⟩
  · cases e
  · have : g = b := by injection e
    rw [this, h.hd] at hg
    cases hg
theorem Gt.below {w w' : World} {B b : Nat} {v : Value} {us : List Value} {C : List (List Int)} (h : Gt w B b v us C) (hb : Below w.heap.size w w') : Gt w' B b v us C :=
  ⟨h.bb, (hb.block b h.lt).trans h.hd, row_kept h.row hb.block, h.len, fun i u c hu hc => by
    obtain ⟨g, ⟨h1, h2, h3⟩, h4, h5⟩ := h.cl i u c hu hc
    exact ⟨g, ⟨h1, h2, (hb.block g (Array.getElem?_eq_some_iff.1 h3).1).trans h3⟩, h4, h5⟩⟩
theorem Gt.kept {w w' : World} {B b : Nat} {v : Value} {us : List Value} {C : List (List Int)} (h : Gt w B b v us C) (_ : w.heap.size ≤ w'.heap.size) (hb : ∀ q, q < w.heap.size → B ≤ q → w'.heap[q]? = w.heap[q]?) : Gt w' B b v us C :=
  ⟨h.bb, (hb b h.lt h.bb).trans h.hd, row_own h.row (fun q hq => hb q (h.row.lt q hq).2 (h.row.lt q hq).1), h.len, fun i u c hu hc => by
    obtain ⟨g, ⟨h1, h2, h3⟩, h4, h5⟩ := h.cl i u c hu hc
    exact ⟨g, ⟨h1, h2, (hb g (Array.getElem?_eq_some_iff.1 h3).1 h2).trans h3⟩, h4, h5⟩⟩
theorem own_slice {w : World} {B : Nat} {e : TypeId} {sz : Nat} {v : Value} {n : Nat} {xs : List Value} (h : w.ownsRow B e sz v n xs) : ∃ a m k, v = .slice a m k := by
  rcases h.2 with ⟨e, -⟩ | ⟨_, _, _, e, -⟩
  · exact ⟨_, _, _, e⟩
  · exact ⟨_, _, _, e⟩
set_option maxRecDepth 20000 in
set_option maxHeartbeats 6400000 in
theorem add_cl {w : World} {B b g : Nat} {v u : Value} {us : List Value} {C : List (List Int)} {c : List Int} (h : Gt w B b v us C) (hc : Cl w B u c g) (h1 : g ≠ b) (h2 : v.ownBlock ≠ some g) (hl : C.length ≤ 100000) (hB : B ≤ w.heap.size) :
    Calls Try.prog 56 #[.pointer (some ⟨b, 0, none⟩), u] w fun ev w' => ev = .returned (.tuple #[]) ∧ (∃ v' us', Gt w' B b v' us' (C ++ [c])) ∧ Below B w w' := by
  obtain ⟨ti, ht0, hz0, hz1, hz2⟩ := info_any infoList
  have HI : Hid _ := (⟨ht0, hz0, hz1, hz2⟩ : Try.prog.info? 31 = some ti ∧ ti.zero = _ ∧ ti.size = 1 ∧ ti.bytes = 24)
  have c0 := cell_of h.hd 0 rfl
  have f0 : w.frozen? ⟨b, 0, none⟩ = false := by simp [World.frozen?, h.hd]
  have hlt := h.lt
  have H : Hid _ := h
  have HC : Hid (Cl w B u c g) := hc
  have hgl : g < w.heap.size := (Array.getElem?_eq_some_iff.1 hc.2.2).1
  obtain ⟨n, hn⟩ : ∃ n, n = us.length := ⟨_, rfl⟩
  have hn1 : n ≤ 100000 := by rw [hn, h.len]; exact hl
  have hvs : ∃ a m k, v = .slice a m k := by
    rcases h.row.2 with ⟨e, -⟩ | ⟨_, _, _, e, -⟩
    · exact ⟨_, _, _, e⟩
    · exact ⟨_, _, _, e⟩
  have HN : Hid _ := hn
  have HR : Hid (w.ownsRow B 31 1 v n us) := by unfold Hid; rw [hn]; exact h.row
  obtain ⟨un, hun⟩ : ∃ n, n = c.length := ⟨_, rfl⟩
  have hu := hc.1
  rw [← hun] at hu
  subst hu
  have HUN : Hid _ := hun
  clear hun
  clear h hc ht0 hz0 hz1 hz2 hn hl
  go_enter Try.func56, Try.ntmps56
  go_wp2_with (at_builtin; refine wpList_append_own_at _ rfl _ _ 30 rfl B 31 ti (.slice none 0 0) 1 24 underLists HI.out.1 HI.out.2.1 HI.out.2.2.1 HI.out.2.2.2 rfl (by decide) v n us rfl (row_kept HR.out (fun _ hq => heap_alloc_old _ _ hq)) ⟨w.heap.size, 0, none⟩ 1 1 [.slice (some ⟨g, 0, none⟩) un un] rfl rfl (cell_one_new _ _ _) (by intro y hy; rw [List.mem_singleton.1 hy]; rfl) (by unfold maxLen; omega) (by omega) (by rw [size_alloc']; omega) ?_; intro v1 w1 hown hgrow hnil hat; obtain ⟨a1, m1, k1, hv1⟩ := own_slice hown; subst hv1; have hbk : w1.heap[b]? = some (.cells #[v] 77 (0, 0)) := ((hgrow.block b (by rw [size_alloc']; omega) (fun e => H.out.vb e.symm)).trans ((heap_alloc_old _ _ hlt).trans H.out.hd)); have k0 := cell_of hbk 0 rfl; have kf : w1.frozen? ⟨b, 0, none⟩ = false := (by simp [World.frozen?, hbk]); have hl1 : b < w1.heap.size := (by have := hgrow.size; rw [size_alloc'] at this; omega))
  go_end0
  have hh := heap_setCell_same w1 b 0 _ _ (.slice a1 m1 k1) hbk
  have hsz : w1.heap.size ≤ (w1.setCell ⟨b, 0, none⟩ (.slice a1 m1 k1)).heap.size := by simp
  have hoth : ∀ q, q ≠ b → (w1.setCell ⟨b, 0, none⟩ (.slice a1 m1 k1)).heap[q]? = w1.heap[q]? := fun q hq => heap_setCell_other _ _ _ _ hq
  have hold : ∀ q, q < w.heap.size → some q ≠ v.ownBlock → q ≠ b → (w1.setCell ⟨b, 0, none⟩ (.slice a1 m1 k1)).heap[q]? = w.heap[q]? := fun q hq hv hb => (hoth q hb).trans ((hgrow.block q (by rw [size_alloc']; omega) hv).trans (heap_alloc_old _ _ hq))
  have hnew : ∀ q, q < w.heap.size → v.ownBlock ≠ some q → (Value.slice a1 m1 k1).ownBlock ≠ some q := fun q hq hv e => by
    rcases hat with e2 | e2
    · exact hv (e2.symm.trans e)
    · rw [e2, size_alloc'] at e
      injection e with e
      omega
  have hvb : (Value.slice a1 m1 k1).ownBlock ≠ some b := hnew b hlt H.out.vb
  refine ⟨by first | rfl | trivial, ⟨_, us ++ [.slice (some ⟨g, 0, none⟩) un un], H.out.bb, hh, ?_, by rw [List.length_append, List.length_append, H.out.len]; rfl, ?_⟩, ⟨hgrow.os, hgrow.tape, hgrow.output, by have := hgrow.size; rw [size_alloc'] at this; omega, fun q hq => hold q (by omega) (fun e => by have := (H.out.row.lt q e.symm).1; omega) (by have := H.out.bb; omega)⟩⟩
  · rw [List.length_append, ← HN.out]
    exact row_own hown (fun q hq => hoth q (fun e => hvb (by rw [hq, e])))
  · intro i u c' hu hc'
    by_cases hi : i < us.length
    · rw [List.getElem?_append_left hi] at hu
      rw [List.getElem?_append_left (by rw [← H.out.len]; exact hi)] at hc'
      obtain ⟨q, ⟨e1, e2, e3⟩, e4, e5⟩ := H.out.cl i u c' hu hc'
      have hql := (Array.getElem?_eq_some_iff.1 e3).1
      exact ⟨q, ⟨e1, e2, (hold q hql (fun e => e5 e.symm) e4).trans e3⟩, e4, hnew q hql e5⟩
    · have hil := (List.getElem?_eq_some_iff.1 hu).1
      rw [List.length_append] at hil
      have hie : i = us.length := by simp at hil; omega
      subst hie
      rw [List.getElem?_append_right (Nat.le_refl _), Nat.sub_self] at hu
      rw [H.out.len, List.getElem?_append_right (Nat.le_refl _), Nat.sub_self] at hc'
      obtain rfl : c = c' := by simpa using hc'
      obtain rfl : Value.slice (some ⟨g, 0, none⟩) un un = u := by simpa using hu
      obtain ⟨e1, e2, e3⟩ := HC.out
      exact ⟨g, ⟨e1, e2, (hold g hgl (fun e => h2 e.symm) h1).trans e3⟩, h1, hnew g hgl h2⟩
end Go.Proofs.Ytajpnlmglkifcaa
