/- Pure facts (clauses): what may be asserted; a region that copies lists and appends two more. -/
import Derived.Test.YtajpnlmglkifcaaCN22
namespace Go.Proofs.Ytajpnlmglkifcaa
open Go.RowKit
set_option linter.unusedSimpArgs false
set_option linter.unusedVariables false

def ilF (m n : Nat) : List Bool := (List.range m).map fun j => bt n j
theorem ilF_len (m n : Nat) : (ilF m n).length = m := by unfold ilF; simp
theorem il_any {m : Nat} (hm : m ≤ 5) {il : List Bool} (h : il.length = m) : ∃ n, n < 2 ^ m ∧ ilF m n = il := by
  have hlt := bn_lt m (fun j => il.getD j false)
  have h32 : (2 : Nat) ^ m ≤ 2 ^ 5 := Nat.pow_le_pow_right (by decide) hm
  refine ⟨_, hlt, ?_⟩
  apply List.ext_getElem?
  intro j
  unfold ilF
  by_cases hj : j < m
  · rw [List.getElem?_map, List.getElem?_range hj, List.getElem?_eq_getElem (by omega)]
    simp only [Option.map_some]
    rw [bt_eq (Nat.lt_of_lt_of_le hlt (Nat.le_trans h32 (by decide))), bn_bit m _ j hj, List.getD_eq_getElem?_getD, List.getElem?_eq_getElem (by omega)]
    rfl
  · rw [List.getElem?_eq_none (by simp; omega), List.getElem?_eq_none (by omega)]
/-- Two roots may be asserted just if both literals can be true. -/
theorem Pz.asserts {f : Nat} {s : Rz} (h : Pz 1 f s) {M m : Nat} (hM : s.vars ≤ (M : Int)) (hM2 : M ≤ 14) (hm : m = (insL s.ks).length) (hm5 : m ≤ 5) {a b : Nat} (ha : a ∈ s.Lt) (hb : b ∈ s.Lt) :
    canF M (s.C ++ [[lit s.V a], [lit s.V b]]) = (List.range (2 ^ m)).any fun n => evV s.ks (ilF m n) a && evV s.ks (ilF m n) b := by
  have key : ∀ n, allF n (s.C ++ [[lit s.V a], [lit s.V b]]) = (allF n s.C && (ltT n (lit s.V a) && ltT n (lit s.V b))) := fun n => by
    unfold allF trF
    rw [List.all_append]
    simp
  rw [Bool.eq_iff_iff]
  unfold canF
  rw [List.any_eq_true, List.any_eq_true]
  constructor
  · rintro ⟨n, hn, hall⟩
    rw [key, Bool.and_eq_true, Bool.and_eq_true] at hall
    obtain ⟨h1, h2, h3⟩ := hall
    obtain ⟨il, hil⟩ : ∃ il : List Bool, il = (List.range m).map fun j => match s.V ((insL s.ks).getD j 0 / 2) with
      | some v => bt n (v.toNat - 1)
      | none => false := ⟨_, rfl⟩
    have hlen : il.length = m := by rw [hil]; simp
    have hfit : fitF s il n := fun k y v hk hv => by
      have hkm : k < m := by rw [hm]; exact (List.getElem?_eq_some_iff.1 hk).1
      rw [hil, List.getD_eq_getElem?_getD, List.getElem?_map, List.getElem?_range hkm]
      simp only [Option.map_some, Option.getD_some]
      rw [List.getD_eq_getElem?_getD, hk, Option.getD_some, hv]
    have hs := fit_sat hfit
    obtain ⟨n', hn', e⟩ := il_any hm5 hlen
    refine ⟨n', List.mem_range.2 hn', ?_⟩
    rw [e, h.root_sound (by decide) hs h1 ha h2, h.root_sound (by decide) hs h1 hb h3]
    rfl
  · rintro ⟨n', hn', hv⟩
    rw [Bool.and_eq_true] at hv
    obtain ⟨n, hn, hC⟩ := h.compl (by decide) (ilF m n') hM hM2
    refine ⟨n, List.mem_range.2 hn, ?_⟩
    rw [key, h.compl_all (by decide) hC, h.root_compl (by decide) hC ha, h.root_compl (by decide) hC hb, hv.1, hv.2]
    rfl
theorem any_snoc {p : Nat → Bool} (n : Nat) : (List.range (n + 1)).any p = ((List.range n).any p || p n) := by
  rw [List.range_succ, List.any_append]
  simp
/-- Lists, two more lists appended; both lie from B on. -/
theorem Ls.app2 {w w' : World} {B : Nat} {v v2 v' : Value} {us us2 : List Value} {C C2 : List (List Int)} (h : Ls w B v us C) (h2 : Ls w B v2 us2 C2) (hne : ∀ u ∈ us2, ∀ q, u.ownBlock = some q → v.ownBlock ≠ some q) (hown : w'.ownsRow B 31 1 v' (us.length + us2.length) (us ++ us2)) (hg : w.grownBy w' v.ownBlock) (hat : v'.ownBlock = v.ownBlock ∨ v'.ownBlock = some w.heap.size) :
    Ls w' B v' (us ++ us2) (C ++ C2) := by
  refine ⟨by rw [List.length_append]; exact hown, by rw [List.length_append, List.length_append, h.len, h2.len], fun i y c hy hc => ?_⟩
  have key : ∀ q, q < w.heap.size → v.ownBlock ≠ some q → w'.heap[q]? = w.heap[q]? ∧ v'.ownBlock ≠ some q := fun q hq hn => by
    refine ⟨hg.block q hq (fun e => hn e.symm), fun e => ?_⟩
    rcases hat with e2 | e2
    · exact hn (e2.symm.trans e)
    · rw [e2] at e; injection e with e; omega
  by_cases hi : i < us.length
  · rw [List.getElem?_append_left hi] at hy
    rw [List.getElem?_append_left (by rw [← h.len]; exact hi)] at hc
    obtain ⟨e1, e2⟩ := h.cl i y c hy hc
    exact ⟨row_own e1 (fun q hq => (key q (e1.lt q hq).2 (e2 q hq)).1), fun q hq => (key q (e1.lt q hq).2 (e2 q hq)).2⟩
  · rw [List.getElem?_append_right (by omega)] at hy
    rw [List.getElem?_append_right (by rw [← h.len]; omega), ← h.len] at hc
    obtain ⟨e1, e2⟩ := h2.cl _ y c hy hc
    have hne' : ∀ q, y.ownBlock = some q → v.ownBlock ≠ some q := hne y (List.mem_of_getElem? hy)
    exact ⟨row_own e1 (fun q hq => (key q (e1.lt q hq).2 (hne' q hq)).1), fun q hq => (key q (e1.lt q hq).2 (hne' q hq)).2⟩
/-- A list of two lists of one number each, just built. -/
theorem ls_two {w : World} {B b1 b2 b3 : Nat} {x y : Int} (h1 : w.heap[b1]? = some (.cells #[.int .i64 x] 3 (0, 0))) (h2 : w.heap[b2]? = some (.cells #[.int .i64 y] 3 (0, 0))) (h3 : w.heap[b3]? = some (.cells #[.slice (some ⟨b1, 0, none⟩) 1 1, .slice (some ⟨b2, 0, none⟩) 1 1] 31 (0, 0))) (hb1 : B ≤ b1) (hb2 : B ≤ b2) (hb3 : B ≤ b3) (hne : b1 ≠ b3) (hne2 : b2 ≠ b3) : Ls w B (.slice (some ⟨b3, 0, none⟩) 2 2) [.slice (some ⟨b1, 0, none⟩) 1 1, .slice (some ⟨b2, 0, none⟩) 1 1] [[x], [y]] := by
  refine ⟨⟨rfl, Or.inr ⟨b3, 2, _, rfl, hb3, h3, Nat.le_refl _, by decide, rfl, rfl⟩⟩, rfl, fun i u c hu hc => ?_⟩
  match i with
  | 0 =>
    simp at hu hc
    subst hu
    subst hc
    exact ⟨⟨rfl, Or.inr ⟨b1, 1, _, rfl, hb1, h1, Nat.le_refl _, by decide, rfl, rfl⟩⟩, fun q hq e => by
      have e1 : b1 = q := by injection hq
      have e2 : b3 = q := by injection e
      omega⟩
  | 1 =>
    simp at hu hc
    subst hu
    subst hc
    exact ⟨⟨rfl, Or.inr ⟨b2, 1, _, rfl, hb2, h2, Nat.le_refl _, by decide, rfl, rfl⟩⟩, fun q hq e => by
      have e1 : b2 = q := by injection hq
      have e2 : b3 = q := by injection e
      omega⟩
  | i + 2 => simp at hu
/-- How far 'append(CopyLists(x.all), []int{a}, []int{b})' has come, ahead of the append: 4 copies, 12, 20, 21 build. -/
structure WF (x0 : World) (ri rk : Int) (C : List (List Int)) (g : Nat → Nat) (L : Nat → Bool) (x : World) : Prop where
  bl : Below x0.heap.size x0 x
  c4 : L 4 = true → ∃ us, Ls x x0.heap.size (dec C.length (g 4)) us C
  a : L 12 = true → x.heap[g 12]? = some (.cells #[.int .i64 ri] 3 (0, 0)) ∧ x0.heap.size ≤ g 12
  b : L 20 = true → x.heap[g 20]? = some (.cells #[.int .i64 rk] 3 (0, 0)) ∧ x0.heap.size ≤ g 20
  ab : L 21 = true → x.heap[g 21]? = some (.cells #[.slice (some ⟨g 12, 0, none⟩) 1 1, .slice (some ⟨g 20, 0, none⟩) 1 1] 31 (0, 0)) ∧ x0.heap.size ≤ g 21 ∧ g 12 ≠ g 21 ∧ g 20 ≠ g 21
  n1 : L 4 = true → L 12 = true → (dec C.length (g 4)).ownBlock ≠ some (g 12)
  n2 : L 4 = true → L 20 = true → (dec C.length (g 4)).ownBlock ≠ some (g 20)
structure WS (x0 : World) (ri rk : Int) (C : List (List Int)) (g : Nat → Nat) (L : Nat → Bool) (x : World) : Prop where
  f : L 22 = false → WF x0 ri rk C g L x
  d : L 22 = true → Below x0.heap.size x0 x ∧ ∃ us, Ls x x0.heap.size (dec (C.length + 2) (g 22)) us (C ++ [[ri], [rk]])
  e1 : L 21 = true → L 12 = true
  e2 : L 21 = true → L 20 = true
  e3 : L 22 = true → L 21 = true
  e4 : L 22 = true → L 4 = true
section
variable {x0 : World} {ri rk : Int} {C : List (List Int)} {g g' : Nat → Nat} {L L' : Nat → Bool} {x y : World} {i : Nat}
theorem WF.keep (h : WF x0 ri rk C g L x) (hb : Below x.heap.size x y) (h4 : L' 4 = L 4) (h12 : L' 12 = L 12) (h20 : L' 20 = L 20) (h21 : L' 21 = L 21) (g4 : g' 4 = g 4) (g12 : g' 12 = g 12) (g20 : g' 20 = g 20) (g21 : g' 21 = g 21) : WF x0 ri rk C g' L' y := by
  have hB : ∀ b o, x.heap[b]? = some o → y.heap[b]? = some o := fun b o e => (hb.block b (Array.getElem?_eq_some_iff.1 e).1).trans e
  refine ⟨h.bl.trans (hb.mono h.bl.size), ?_, ?_, ?_, ?_, ?_, ?_⟩
  · rw [h4, g4]
    intro e
    obtain ⟨us, q⟩ := h.c4 e
    exact ⟨us, q.below hb⟩
  · rw [h12, g12]; exact fun e => ⟨hB _ _ (h.a e).1, (h.a e).2⟩
  · rw [h20, g20]; exact fun e => ⟨hB _ _ (h.b e).1, (h.b e).2⟩
  · rw [h21, g21, g12, g20]; exact fun e => ⟨hB _ _ (h.ab e).1, (h.ab e).2⟩
  · rw [h4, h12, g4, g12]; exact h.n1
  · rw [h4, h20, g4, g20]; exact h.n2
theorem WS.start (h0 : x.heap = x0.heap) (h1 : x.os = x0.os) (h2 : x.tape = x0.tape) (h3 : x.output = x0.output) : WS x0 ri rk C g (fun _ => false) x :=
  ⟨fun _ => ⟨⟨h1, h2, h3, by rw [h0]; exact Nat.le_refl _, fun b _ => by rw [h0]⟩, (fun e => by cases e), (fun e => by cases e), (fun e => by cases e), (fun e => by cases e), (fun e => by cases e), (fun e => by cases e)⟩, (fun e => by cases e), (fun e => by cases e), (fun e => by cases e), (fun e => by cases e), (fun e => by cases e)⟩
theorem WS.go (h : WS x0 ri rk C g L x) (hi : (i != 4 && i != 12 && i != 20 && i != 21 && i != 22) = true) : WS x0 ri rk C g (updB L i) x := by
  simp only [Bool.and_eq_true, bne_iff_ne, ne_eq] at hi
  have u4 := updB_ne (L := L) (i := i) (k := 4) (by omega)
  have u12 := updB_ne (L := L) (i := i) (k := 12) (by omega)
  have u20 := updB_ne (L := L) (i := i) (k := 20) (by omega)
  have u21 := updB_ne (L := L) (i := i) (k := 21) (by omega)
  have u22 := updB_ne (L := L) (i := i) (k := 22) (by omega)
  exact ⟨by rw [u22]; exact fun e => (h.f e).keep (Below.refl _ _) u4 u12 u20 u21 rfl rfl rfl rfl, by rw [u22]; exact h.d, by rw [u21, u12]; exact h.e1, by rw [u21, u20]; exact h.e2, by rw [u22, u21]; exact h.e3, by rw [u22, u4]; exact h.e4⟩
theorem WS.low (h : WS x0 ri rk C g L x) : Below x0.heap.size x0 x := by
  cases e : L 22 with
  | false => exact (h.f e).bl
  | true => exact (h.d e).1
theorem WS.call {p : Nat} {us : List Value} (h : WS x0 ri rk C g L x) (hLi : L 4 = false) (hb : Below x.heap.size x y) (hl : Ls y x.heap.size (dec C.length p) us C) : WS x0 ri rk C (updG g 4 p) (updB L 4) y := by
  have h22 : L 22 = false := off_of h.e4 hLi
  have hf := h.f h22
  have hs := hf.bl.size
  have hB : ∀ b o, x.heap[b]? = some o → y.heap[b]? = some o := fun b o e => (hb.block b (Array.getElem?_eq_some_iff.1 e).1).trans e
  refine ⟨fun _ => ⟨hf.bl.trans (hb.mono hs), fun _ => ⟨us, ?_⟩, fun e => ⟨hB _ _ (hf.a e).1, (hf.a e).2⟩, fun e => ⟨hB _ _ (hf.b e).1, (hf.b e).2⟩, fun e => ⟨hB _ _ (hf.ab e).1, (hf.ab e).2⟩, fun _ e => ?_, fun _ e => ?_⟩, (fun e => by rw [show updB L 4 22 = L 22 from rfl, h22] at e; cases e), h.e1, h.e2, h.e3, fun _ => updB_eq⟩
  · rw [updG_eq]
    exact ⟨own_mono hl.row hs, hl.len, fun i u c hu hc => ⟨own_mono (hl.cl i u c hu hc).1 hs, (hl.cl i u c hu hc).2⟩⟩
  · rw [updG_eq]
    intro q
    have q1 := (hl.row.lt _ q).1
    have q2 : g 12 < x.heap.size := (Array.getElem?_eq_some_iff.1 (hf.a e).1).1
    have q3 : updG g 4 p 12 = g 12 := rfl
    omega
  · rw [updG_eq]
    intro q
    have q1 := (hl.row.lt _ q).1
    have q2 : g 20 < x.heap.size := (Array.getElem?_eq_some_iff.1 (hf.b e).1).1
    have q3 : updG g 4 p 20 = g 20 := rfl
    omega
theorem WS.b12 (h : WS x0 ri rk C g L x) (hLi : L 12 = false) : WS x0 ri rk C (updG g 12 x.heap.size) (updB L 12) (x.alloc (.cells #[.int .i64 ri] 3 (0, 0))) := by
  have h21 : L 21 = false := off_of h.e1 hLi
  have h22 : L 22 = false := off_of h.e3 h21
  have hf := h.f h22
  have hs := hf.bl.size
  have hb : Below x.heap.size x (x.alloc (.cells #[.int .i64 ri] 3 (0, 0))) := by go_grown
  have hB : ∀ b o, x.heap[b]? = some o → (x.alloc (.cells #[.int .i64 ri] 3 (0, 0))).heap[b]? = some o := fun b o e => (hb.block b (Array.getElem?_eq_some_iff.1 e).1).trans e
  refine ⟨fun _ => ⟨hf.bl.trans (hb.mono hs), fun e => ?_, fun _ => ?_, fun e => ⟨hB _ _ (hf.b e).1, (hf.b e).2⟩, (fun e => by rw [show updB L 12 21 = L 21 from rfl, h21] at e; cases e), fun e _ => ?_, hf.n2⟩, (fun e => by rw [show updB L 12 22 = L 22 from rfl, h22] at e; cases e), fun _ => updB_eq, h.e2, h.e3, h.e4⟩
  · obtain ⟨us, q⟩ := hf.c4 e
    exact ⟨us, q.below hb⟩
  · rw [updG_eq]; exact ⟨heap_alloc_new x _, hs⟩
  · rw [updG_eq]
    obtain ⟨us, q⟩ := hf.c4 e
    intro q2
    have q3 : (dec C.length (g 4)).ownBlock = some x.heap.size := q2
    have := (q.row.lt _ q3).2
    omega
theorem WS.b20 (h : WS x0 ri rk C g L x) (hLi : L 20 = false) : WS x0 ri rk C (updG g 20 x.heap.size) (updB L 20) (x.alloc (.cells #[.int .i64 rk] 3 (0, 0))) := by
  have h21 : L 21 = false := off_of h.e2 hLi
  have h22 : L 22 = false := off_of h.e3 h21
  have hf := h.f h22
  have hs := hf.bl.size
  have hb : Below x.heap.size x (x.alloc (.cells #[.int .i64 rk] 3 (0, 0))) := by go_grown
  have hB : ∀ b o, x.heap[b]? = some o → (x.alloc (.cells #[.int .i64 rk] 3 (0, 0))).heap[b]? = some o := fun b o e => (hb.block b (Array.getElem?_eq_some_iff.1 e).1).trans e
  refine ⟨fun _ => ⟨hf.bl.trans (hb.mono hs), fun e => ?_, fun e => ⟨hB _ _ (hf.a e).1, (hf.a e).2⟩, fun _ => ?_, (fun e => by rw [show updB L 20 21 = L 21 from rfl, h21] at e; cases e), hf.n1, fun e _ => ?_⟩, (fun e => by rw [show updB L 20 22 = L 22 from rfl, h22] at e; cases e), h.e1, fun _ => updB_eq, h.e3, h.e4⟩
  · obtain ⟨us, q⟩ := hf.c4 e
    exact ⟨us, q.below hb⟩
  · rw [updG_eq]; exact ⟨heap_alloc_new x _, hs⟩
  · rw [updG_eq]
    obtain ⟨us, q⟩ := hf.c4 e
    intro q2
    have q3 : (dec C.length (g 4)).ownBlock = some x.heap.size := q2
    have := (q.row.lt _ q3).2
    omega
theorem WS.b21 (h : WS x0 ri rk C g L x) (hLi : L 21 = false) (h12 : L 12 = true) (h20 : L 20 = true) : WS x0 ri rk C (updG g 21 x.heap.size) (updB L 21) (x.alloc (.cells #[.slice (some ⟨g 12, 0, none⟩) 1 1, .slice (some ⟨g 20, 0, none⟩) 1 1] 31 (0, 0))) := by
  have h22 : L 22 = false := off_of h.e3 hLi
  have hf := h.f h22
  have hs := hf.bl.size
  have q1 : g 12 < x.heap.size := (Array.getElem?_eq_some_iff.1 (hf.a h12).1).1
  have q2 : g 20 < x.heap.size := (Array.getElem?_eq_some_iff.1 (hf.b h20).1).1
  have hb : Below x.heap.size x (x.alloc (.cells #[.slice (some ⟨g 12, 0, none⟩) 1 1, .slice (some ⟨g 20, 0, none⟩) 1 1] 31 (0, 0))) := by go_grown
  have hB : ∀ b o, x.heap[b]? = some o → (x.alloc (.cells #[.slice (some ⟨g 12, 0, none⟩) 1 1, .slice (some ⟨g 20, 0, none⟩) 1 1] 31 (0, 0))).heap[b]? = some o := fun b o e => (hb.block b (Array.getElem?_eq_some_iff.1 e).1).trans e
  refine ⟨fun _ => ⟨hf.bl.trans (hb.mono hs), fun e => ?_, fun e => ⟨hB _ _ (hf.a e).1, (hf.a e).2⟩, fun e => ⟨hB _ _ (hf.b e).1, (hf.b e).2⟩, fun _ => ?_, hf.n1, hf.n2⟩, (fun e => by rw [show updB L 21 22 = L 22 from rfl, h22] at e; cases e), fun _ => h12, fun _ => h20, fun _ => updB_eq, h.e4⟩
  · obtain ⟨us, q⟩ := hf.c4 e
    exact ⟨us, q.below hb⟩
  · rw [updG_eq]
    exact ⟨heap_alloc_new x _, hs, by show g 12 ≠ x.heap.size; omega, by show g 20 ≠ x.heap.size; omega⟩
theorem WS.app {ty : TypeId} (h : WS x0 ri rk C g L x) (hLi : L 22 = false) (h21 : L 21 = true) (h4 : L 4 = true) (hn : C.length ≤ 900000) :
    ∃ p y, (Builtin.append_ #[30, 30] ty #[dec C.length (g 4), .slice (some ⟨g 21, 0, none⟩) 2 2]).run Try.prog x = .ok (dec (C.length + 2) p) y ∧ WS x0 ri rk C (updG g 22 p) (updB L 22) y := by
  have hf := h.f hLi
  have hs := hf.bl.size
  obtain ⟨us, hl⟩ := hf.c4 h4
  obtain ⟨a1, a2⟩ := hf.a (h.e1 h21)
  obtain ⟨b1, b2⟩ := hf.b (h.e2 h21)
  obtain ⟨c1, c2, c3, c4⟩ := hf.ab h21
  have hl2 := ls_two a1 b1 c1 a2 b2 c2 c3 c4
  obtain ⟨v3, y, hap, hown, hg, hat⟩ := app_lists x ty (c := 2) (m := 2) (ad := some ⟨g 21, 0, none⟩) (news := [.slice (some ⟨g 12, 0, none⟩) 1 1, .slice (some ⟨g 20, 0, none⟩) 1 1]) hl.row rfl (Or.inr ⟨_, rfl, fun j u hj => by
    have e5 : (⟨g 21, 0, none⟩ : Addr).add j = ⟨g 21, j, none⟩ := (by simp [Addr.add]; try (intro hq; exact hq.symm))
    rw [e5]; exact cell_of c1 j (by simpa using hj)⟩) hl2.ones (by have := hl.len; omega) hs
  have hL3 := hl.app2 hl2 (fun u hu q hq => by
    simp only [List.mem_cons, List.not_mem_nil, or_false] at hu
    rcases hu with rfl | rfl
    · have e : g 12 = q := by injection hq
      rw [← e]; exact hf.n1 h4 (h.e1 h21)
    · have e : g 20 = q := by injection hq
      rw [← e]; exact hf.n2 h4 (h.e2 h21)) hown hg hat
  obtain ⟨p, hp⟩ := dec_of hown
  rw [hl.len] at hp
  subst hp
  refine ⟨p, y, hap, (fun e => by rw [updB_eq] at e; cases e), fun _ => ⟨?_, _, by rw [updG_eq]; exact hL3⟩, h.e1, h.e2, fun _ => h21, fun _ => h4⟩
  exact ⟨hg.os.trans hf.bl.os, hg.tape.trans hf.bl.tape, hg.output.trans hf.bl.output, by have := hg.size; omega, fun b hb => (hg.block b (by omega) (fun e => by have := (hl.row.lt b e.symm).1; omega)).trans (hf.bl.block b hb)⟩
end
end Go.Proofs.Ytajpnlmglkifcaa
