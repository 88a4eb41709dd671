/- Slices of numbers, and slices of those, that are handed in: what their cells hold, how long they may be. -/
import Derived.Test.YthdgmkjjpmigeaaTK1
import Derived.Deep.Slices
import Derived.ProofKit
import Derived.OpenShut
import Derived.SizedLaws
namespace Go.Proofs.Ythdgmkjjpmigeaa
open Go.RowKit Go.ChangeShapes Go.WideShapes Go.Deep
section
variable {H : Type} {enc : TypeId × Value → H} {w : World} {base : Nat} {spare : Nat → Bool} {held : Bool}
theorem add_at {g o : Nat} (j : Nat) : (⟨g, o, none⟩ : Addr).add j = ⟨g, o + j, none⟩ := by by_cases hj0 : j = 0 <;> simp [Addr.add, hj0]
theorem no_sub {a : Addr} {v : Value} (h : w.cell? (a.add 0) = some v) : ∃ g o, a = ⟨g, o, none⟩ := by
  obtain ⟨g, o, sp⟩ := a
  cases sp with
  | none => exact ⟨g, o, rfl⟩
  | some x => simp [World.cell?, Addr.add] at h; split at h <;> simp at h
theorem w64_wf {y : Int} (h : (Lit.int .i64 y).wf = true) : w64 y := by
  simp [Lit.wf, IntKind.min, IntKind.max, IntKind.signed, IntKind.bits] at h
  unfold w64
  omega
theorem ints_sized {fuel : Nat} {v : Value} {x : DataW H × List MemPlace} (h : DataW.trod enc Try.prog w base (fun _ => true) held fuel 51 [v] = some x) :
    ∃ l : List Int, Sr w v l ∧ (∀ y ∈ l, w64 y) ∧ (l.length = 0 ∨ ∃ elems spare, x.1 = .slice elems spare ∧ elems.length = l.length) := by
  have e4 : Try.prog.cellsOf 3 = 1 := by kernel_rfl
  rcases open_slice1 Try.underlying51 e4 h with ⟨h0, -⟩ | ⟨a, len, cap, m, nn, V, D, Pl, hcs, hb, hl, hm, hmm, hxx, hx⟩
  · simp at h0
    subst h0
    exact ⟨[], ⟨none, 0, rfl, Or.inl rfl⟩, (fun y hy => by cases hy), Or.inl rfl⟩
  · simp at hcs
    subst hcs
    simp only [if_true] at hmm
    subst hmm
    have each : ∀ i, i < len → ∃ n : Int, w.cell? (a.add i) = some (.int .i64 n) ∧ w64 n := by
      intro i hi
      obtain ⟨h1, h2⟩ := hx i (by omega)
      obtain ⟨n, h3, -, h4⟩ := DataW.trod_int Try.underlying3 h2
      simp at h3
      rw [h3] at h1
      exact ⟨n, h1, w64_wf h4⟩
    obtain ⟨N, hN⟩ := choose_lt each
    refine ⟨(List.range len).map N, ?_, ?_, Or.inr ⟨_, _, by rw [hxx], by simp⟩⟩
    · by_cases h0 : len = 0
      · subst h0
        exact ⟨_, _, rfl, Or.inl rfl⟩
      · obtain ⟨g, o, rfl⟩ := no_sub (hN 0 (by omega)).1
        refine ⟨_, m, by simp, Or.inr ⟨g, o, rfl, World.block_lt_of_cell? _ _ ((add_at (g := g) (o := o) 0) ▸ (hN 0 (by omega)).1), fun j hj => ?_⟩⟩
        have hj' : j < len := by simpa using hj
        have := (hN j hj').1
        rw [add_at] at this
        rw [this, List.getD_eq_getElem?_getD, List.getElem?_map, List.getElem?_range hj']
        rfl
    · intro y hy
      obtain ⟨i, hi, rfl⟩ := List.mem_map.1 hy
      exact (hN i (List.mem_range.1 hi)).2
theorem bytes_sized {fuel : Nat} {v : Value} {x : DataW H × List MemPlace} (h : DataW.trod enc Try.prog w base (fun _ => true) held fuel 23 [v] = some x) :
    ∃ l : List Int, Br w v l := by
  have e4 : Try.prog.cellsOf 5 = 1 := by kernel_rfl
  rcases open_slice1 Try.underlying23 e4 h with ⟨h0, -⟩ | ⟨a, len, cap, m, nn, V, D, Pl, hcs, hb, hl, hm, hmm, hxx, hx⟩
  · simp at h0
    subst h0
    exact ⟨[], ⟨none, 0, rfl, Nat.le_refl _, Or.inl rfl⟩, fun y hy => by cases hy⟩
  · simp at hcs
    subst hcs
    simp only [if_true] at hmm
    subst hmm
    have each : ∀ i, i < len → ∃ n : Int, w.cell? (a.add i) = some (.int .u8 n) ∧ 0 ≤ n ∧ n < 256 := by
      intro i hi
      obtain ⟨h1, h2⟩ := hx i (by omega)
      obtain ⟨n, h3, -, h4⟩ := DataW.trod_int Try.underlying5 h2
      simp at h3
      rw [h3] at h1
      refine ⟨n, h1, ?_⟩
      simp [Lit.wf, IntKind.min, IntKind.max, IntKind.signed, IntKind.bits] at h4
      omega
    obtain ⟨N, hN⟩ := choose_lt each
    refine ⟨(List.range len).map N, ?_, ?_⟩
    · by_cases h0 : len = 0
      · subst h0
        exact ⟨_, _, rfl, Nat.zero_le _, Or.inl rfl⟩
      · obtain ⟨g, o, rfl⟩ := no_sub (hN 0 (by omega)).1
        refine ⟨_, m, by simp, by simp; omega, Or.inr ⟨g, o, rfl, World.block_lt_of_cell? _ _ ((add_at (g := g) (o := o) 0) ▸ (hN 0 (by omega)).1), fun j hj => ?_⟩⟩
        have hj' : j < len := by simpa using hj
        have := (hN j hj').1
        rw [add_at] at this
        rw [this, List.getD_eq_getElem?_getD, List.getElem?_map, List.getElem?_range hj']
        rfl
    · intro y hy
      obtain ⟨i, hi, rfl⟩ := List.mem_map.1 hy
      exact (hN i (List.mem_range.1 hi)).2
/-- How the slices of a slice are known by their data. -/
def Dl (x : DataW H) (L : List (List Int)) : Prop := L.length = 0 ∨ ∃ elems spare, x = .slice elems spare ∧ elems.length = L.length ∧ ∀ (i : Nat) c, L[i]? = some c → c.length = 0 ∨ ∃ e s, elems[i]? = some (.slice e s) ∧ e.length = c.length
theorem lists_sized {fuel : Nat} {v : Value} {x : DataW H × List MemPlace} (h : DataW.trod enc Try.prog w base (fun _ => true) held fuel 22 [v] = some x) :
    ∃ L : List (List Int), Lr w v L ∧ (∀ c ∈ L, ∀ y ∈ c, w64 y) ∧ Dl x.1 L := by
  have e4 : Try.prog.cellsOf 51 = 1 := by kernel_rfl
  rcases open_slice1 Try.underlying22 e4 h with ⟨h0, -⟩ | ⟨a, len, cap, m, nn, V, D, Pl, hcs, hb, hl, hm, hmm, hxx, hx⟩
  · simp at h0
    subst h0
    exact ⟨[], ⟨none, 0, rfl, Or.inl rfl⟩, (fun y hy => by cases hy), Or.inl rfl⟩
  · simp at hcs
    subst hcs
    simp only [if_true] at hmm
    subst hmm
    have each : ∀ i, i < len → ∃ n : List Int, (w.cell? (a.add i) = some (V i) ∧ Sr w (V i) n) ∧ (∀ y ∈ n, w64 y) ∧ (n.length = 0 ∨ ∃ elems spare, D i = .slice elems spare ∧ elems.length = n.length) := by
      intro i hi
      obtain ⟨h1, h2⟩ := hx i (by omega)
      obtain ⟨l, h3, h4, h5⟩ := ints_sized h2
      exact ⟨l, ⟨h1, h3⟩, h4, h5⟩
    obtain ⟨N, hN⟩ := choose_lt each
    refine ⟨(List.range len).map N, ?_, ?_, Or.inr ⟨_, _, by rw [hxx], by simp, fun i c hc => ?_⟩⟩
    · by_cases h0 : len = 0
      · subst h0
        exact ⟨_, _, rfl, Or.inl rfl⟩
      · obtain ⟨g, o, rfl⟩ := no_sub (hN 0 (by omega)).1.1
        refine ⟨_, m, by simp, Or.inr ⟨g, o, rfl, World.block_lt_of_cell? _ _ ((add_at (g := g) (o := o) 0) ▸ (hN 0 (by omega)).1.1), fun j c hc => ?_⟩⟩
        have hj' : j < len := by have := (List.getElem?_eq_some_iff.1 hc).1; simpa using this
        have h1 := (hN j hj').1.1
        rw [add_at] at h1
        refine ⟨_, h1, ?_⟩
        rw [List.getElem?_map, List.getElem?_range hj'] at hc
        injection hc with hc
        rw [← hc]; exact (hN j hj').1.2
    · intro c hc y hy
      obtain ⟨i, hi, rfl⟩ := List.mem_map.1 hc
      exact (hN i (List.mem_range.1 hi)).2.1 y hy
    · have hj' : i < len := by have := (List.getElem?_eq_some_iff.1 hc).1; simpa using this
      rw [List.getElem?_map, List.getElem?_range hj'] at hc
      injection hc with hc
      rw [← hc]
      rcases (hN i hj').2.2 with h1 | ⟨e, s, h1, h2⟩
      · exact Or.inl h1
      · exact Or.inr ⟨e, s, by rw [List.getElem?_map, List.getElem?_range hj', Option.map_some, h1], h2⟩
theorem weights_all {P : Program} {e : TypeId} : ∀ {ds : List (DataW H)} {i : Nat} {d : DataW H}, ds[i]? = some d → ∀ n ∈ d.weights P e, n ∈ DataW.weightsAll P e ds
  | [], i, d, h, n, hn => by simp at h
  | d0 :: ds, 0, d, h, n, hn => by
    simp at h; subst h
    simp only [DataW.weightsAll, List.mem_append]; exact Or.inl hn
  | d0 :: ds, i + 1, d, h, n, hn => by
    rw [List.getElem?_cons_succ] at h
    simp only [DataW.weightsAll, List.mem_append]; exact Or.inr (weights_all h n hn)
variable {ts : List TypeId} {ds : List (DataW H)}
theorem reach_e : reachBytes = 140737488351232 := by decide
theorem ints_len (h : (DataW.weightsEach Try.prog ts ds).all (· ≤ reachBytes) = true) {j : Nat} {d : DataW H} {l : List Int} (ht : ts[j]? = some 51) (hd : ds[j]? = some d) (hl : l.length = 0 ∨ ∃ elems spare, d = .slice elems spare ∧ elems.length = l.length) : l.length ≤ 70368744177664 := by
  rcases hl with h0 | ⟨e, s, rfl, h1⟩
  · omega
  · have hb : Try.prog.bytesOf 3 = 8 := by kernel_rfl
    have := sized_slice h ht hd Try.underlying51
    rw [hb, reach_e] at this
    omega
theorem lists_len (h : (DataW.weightsEach Try.prog ts ds).all (· ≤ reachBytes) = true) {j : Nat} {d : DataW H} {L : List (List Int)} (ht : ts[j]? = some 22) (hd : ds[j]? = some d) (hl : Dl d L) : L.length ≤ 70368744177664 ∧ ∀ c ∈ L, c.length ≤ 70368744177664 := by
  rcases hl with h0 | ⟨e, s, rfl, h1, h2⟩
  · have : L = [] := List.eq_nil_of_length_eq_zero h0
    subst this
    exact ⟨by decide, fun c hc => by cases hc⟩
  · have hb : Try.prog.bytesOf 51 = 24 := by kernel_rfl
    have hb8 : Try.prog.bytesOf 3 = 8 := by kernel_rfl
    have h3 := sized_slice h ht hd Try.underlying22
    rw [hb, reach_e] at h3
    refine ⟨by omega, fun c hc => ?_⟩
    obtain ⟨i, hi⟩ := List.getElem?_of_mem hc
    rcases h2 i c hi with h4 | ⟨e', s', h4, h5⟩
    · omega
    · have h6 : (e'.length + s'.length) * 8 ∈ DataW.weightsEach Try.prog ts ds := by
        refine DataW.weights_mem_each ht hd _ ?_
        simp only [DataW.weights, Try.underlying22]
        refine List.mem_cons_of_mem _ (List.mem_append_left _ (weights_all h4 _ ?_))
        simp only [DataW.weights, Try.underlying51, hb8]
        exact List.mem_cons_self ..
      have h7 := List.all_eq_true.1 h _ h6
      simp only [decide_eq_true_eq] at h7
      rw [reach_e] at h7
      omega
end
end Go.Proofs.Ythdgmkjjpmigeaa
