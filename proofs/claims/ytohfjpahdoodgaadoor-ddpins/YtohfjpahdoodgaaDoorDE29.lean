/- The laws' world: what its tables say; a step's first region. -/
import Derived.Test.YtohfjpahdoodgaaDoorDE28
namespace Go.Proofs.YtohfjpahdoodgaaDoor
open Go.RowKit
set_option linter.unusedSimpArgs false
set_option linter.unusedVariables false

/-- The table of a function of assignments. -/
def tabV (n : Nat) (V : (Int → Bool) → Bool) : List Bool := (List.range (N2 n)).map fun k => V (fun i => bt k i.toNat)
theorem tabV_len (n : Nat) (V : (Int → Bool) → Bool) : (tabV n V).length = N2 n := by simp [tabV]
theorem tabV_get {n k : Nat} (V : (Int → Bool) → Bool) (hk : k < N2 n) : (tabV n V).getD k false = V (fun i => bt k i.toNat) := by
  rw [List.getD_eq_getElem?_getD]; unfold tabV; rw [List.getElem?_map, List.getElem?_range hk]; rfl
theorem tabV_ite (n : Nat) (A B C : (Int → Bool) → Bool) : iteT (tabV n A) (tabV n B) (tabV n C) = tabV n (fun x => if A x then B x else C x) := by
  unfold iteT
  rw [tabV_len]
  refine List.map_congr_left fun k hk => ?_
  have hk' := List.mem_range.1 hk
  rw [tabV_get A hk', tabV_get B hk', tabV_get C hk']
theorem tabV_congr {n : Nat} {A B : (Int → Bool) → Bool} (h : ∀ x, A x = B x) : tabV n A = tabV n B := by rw [show A = B from funext h]
/-- What holds of the world, plainly. -/
structure Pu (n : Nat) (S : St) (pn : Int → Int) (H : List HT) : Prop where
  two : ∃ v0 v1 R, H = (0, v0, tabV n (fun _ => false)) :: (1, v1, tabV n (fun _ => true)) :: R
  al : ∀ p ∈ H, alive S.ns p.1 ∧ p.2.2 = tabV n (fun x => val n S.ns x p.1)
  pn : ∀ f, pn f = if 2 ≤ f then ((H.map (·.1)).count f : Int) else 0
theorem Pu.len {n : Nat} {S : St} {pn : Int → Int} {H : List HT} (h : Pu n S pn H) : 2 ≤ H.length := by
  obtain ⟨_, _, R, rfl⟩ := h.two
  simp
theorem Pu.grow {n : Nat} {S S' : St} {pn : Int → Int} {H : List HT} {f : Int} {u : Value} {V : (Int → Bool) → Bool} (g : Good n S.ns S.sp) (h : Pu n S pn H) (hp : S.ns <+: S'.ns) (hf : alive S'.ns f) (hV : ∀ x, val n S'.ns x f = V x) :
    Pu n S' (if alive S'.ns f ∧ 2 ≤ f then pinA pn f (pn f + 1) else pn) (H ++ [(f, u, tabV n V)]) := by
  refine ⟨?_, fun p hp' => ?_, fun x => ?_⟩
  · obtain ⟨v0, v1, R, rfl⟩ := h.two
    exact ⟨v0, v1, R ++ [(f, u, tabV n V)], rfl⟩
  · rw [List.mem_append, List.mem_singleton] at hp'
    rcases hp' with q | rfl
    · obtain ⟨a1, a2⟩ := h.al p q
      exact ⟨pre_alive hp a1, by rw [a2]; exact tabV_congr fun x => (pre_val g hp x a1).symm⟩
    · exact ⟨hf, tabV_congr fun x => (hV x).symm⟩
  · rw [List.map_append, List.map_singleton, List.count_append, List.count_singleton]
    have h1 := h.pn x
    by_cases h2 : 2 ≤ f
    · rw [if_pos ⟨hf, h2⟩]
      unfold pinA
      by_cases e : x = f
      · subst e; rw [if_pos rfl, h1, if_pos h2]; simp
        omega
      · rw [if_neg e, h1]
        have : (f == x) = false := by simp; exact fun q => e q.symm
        simp [this]
    · rw [if_neg (fun q => h2 q.2), h1]
      by_cases h3 : 2 ≤ x
      · rw [if_pos h3, if_pos h3]
        have : (f == x) = false := by simp; omega
        simp [this]
      · rw [if_neg h3, if_neg h3]
/-- A step's first region: three things are taken, each into a block of its own. -/
structure DS (W : World) (f : Nat → Int) (tv : Nat → Value) (g : Nat → Nat) (D : Nat → Bool) (x : World) : Prop where
  bel : Below W.heap.size W x
  al : ∀ k, k = 12 ∨ k = 13 ∨ k = 14 → D k = true → W.heap.size ≤ g k ∧ x.heap[g k]? = some (.cells (if D (k + 3) then #[.int .i64 (f k), tv k] else #[.int .i64 0, .slice none 0 0]) 36 (0, 0))
  ne : ∀ k j, (k = 12 ∨ k = 13 ∨ k = 14) → (j = 12 ∨ j = 13 ∨ j = 14) → k ≠ j → D k = true → D j = true → g k ≠ g j
  od : ∀ k, k = 12 ∨ k = 13 ∨ k = 14 → D (k + 3) = true → D k = true
section
variable {W x y : World} {f : Nat → Int} {tv : Nat → Value} {g : Nat → Nat} {D : Nat → Bool} {i k : Nat}
theorem DS.start : DS W f tv (fun _ => 0) (fun _ => false) W.drew :=
  ⟨⟨rfl, rfl, rfl, Nat.le_refl _, fun _ _ => rfl⟩, (fun _ _ e => nomatch e), (fun _ _ _ _ _ e => nomatch e), fun _ _ e => nomatch e⟩
theorem DS.called (h : DS W f tv g D x) (hi : i < 12) (hb : Below x.heap.size x y) : DS W f tv g (updB D i) y := by
  have u : ∀ j, 12 ≤ j → updB D i j = D j := fun j hj => updB_ne (by omega)
  refine ⟨h.bel.trans (hb.mono h.bel.size), fun k hk hd => ?_, fun k j hk hj hne hd he => ?_, fun k hk hd => ?_⟩
  · rw [u k (by omega)] at hd
    obtain ⟨h1, h2⟩ := h.al k hk hd
    rw [u (k + 3) (by omega)]
    exact ⟨h1, (hb.block _ (blk_lt h2)).trans h2⟩
  · rw [u k (by omega)] at hd
    rw [u j (by omega)] at he
    exact h.ne k j hk hj hne hd he
  · rw [u _ (by omega)] at hd ⊢
    exact h.od k hk hd
theorem DS.go (h : DS W f tv g D x) (hi : i < 12) : DS W f tv g (updB D i) x := h.called hi (Below.refl _ _)
theorem DS.made (h : DS W f tv g D x) (hk : k = 12 ∨ k = 13 ∨ k = 14) (h3 : D (k + 3) = false) (hkd : D k = false) : DS W f tv (updG g k x.heap.size) (updB D k) (x.alloc (.cells #[.int .i64 0, .slice none 0 0] 36)) := by
  have hs := h.bel.size
  refine ⟨h.bel.alloc (by omega) _, fun j hj hd => ?_, fun i j hi hj hne hd he => ?_, fun j hj hd => ?_⟩
  · rw [updB_ne (L := D) (i := k) (k := j + 3) (by omega)]
    by_cases e : j = k
    · subst e
      rw [updG_eq, h3]
      exact ⟨by omega, heap_alloc_new _ _⟩
    · rw [updB_ne (by omega)] at hd
      obtain ⟨h1, h2⟩ := h.al j hj hd
      rw [updG_ne _ (by omega)]
      exact ⟨h1, (heap_alloc_old _ _ (blk_lt h2)).trans h2⟩
  · by_cases e : i = k
    · subst e
      rw [updG_eq, updG_ne _ (by omega)]
      rw [updB_ne (by omega)] at he
      have := blk_lt (h.al j hj he).2
      omega
    · rw [updB_ne (by omega)] at hd
      rw [updG_ne _ (by omega)]
      by_cases e2 : j = k
      · subst e2
        rw [updG_eq]
        have := blk_lt (h.al i hi hd).2
        omega
      · rw [updB_ne (by omega)] at he
        rw [updG_ne _ (by omega)]
        exact h.ne i j hi hj hne hd he
  · rw [updB_ne (by omega)] at hd
    have := h.od j hj hd
    by_cases e : j = k
    · subst e; rw [updB_eq]
    · rw [updB_ne (by omega)]; exact this
theorem two_set (x : World) (b : Nat) (u v a c : Value) (T : TypeId) (h : x.heap[b]? = some (.cells #[u, v] T (0, 0))) : ((x.setCell ⟨b, 0, none⟩ a).setCell ⟨b, 1, none⟩ c).heap[b]? = some (.cells #[a, c] T (0, 0)) := by
  have h1 := heap_setCell_same x b 0 #[u, v] T a h
  have h2 := heap_setCell_same _ b 1 _ T c h1
  simpa using h2
theorem DS.stored (h : DS W f tv g D x) (hk : k = 12 ∨ k = 13 ∨ k = 14) (h3 : D (k + 3) = false) (hkd : D k = true) : DS W f tv g (updB D (k + 3)) ((x.setCell ⟨g k, 0, none⟩ (.int .i64 (f k))).setCell ⟨g k, 1, none⟩ (tv k)) := by
  obtain ⟨h1, h2⟩ := h.al k hk hkd
  rw [h3] at h2
  have h2' := two_set x (g k) _ _ (.int .i64 (f k)) (tv k) _ h2
  refine ⟨(h.bel.setCell (p := ⟨g k, 0, none⟩) h1 _).setCell (p := ⟨g k, 1, none⟩) h1 _, fun j hj hd => ?_, fun i j hi hj hne hd he => ?_, fun j hj hd => ?_⟩
  · rw [updB_ne (by omega)] at hd
    by_cases e : j = k
    · subst e
      rw [updB_eq]
      exact ⟨h1, h2'⟩
    · rw [updB_ne (by omega)]
      obtain ⟨q1, q2⟩ := h.al j hj hd
      have hn := h.ne j k hj hk e hd hkd
      exact ⟨q1, ((heap_setCell_other _ _ _ _ (show g j ≠ g k from hn)).trans (heap_setCell_other _ _ _ _ (show g j ≠ g k from hn))).trans q2⟩
  · rw [updB_ne (by omega)] at hd he
    exact h.ne i j hi hj hne hd he
  · rw [updB_ne (by omega)]
    by_cases e : j = k
    · subst e; exact hkd
    · rw [updB_ne (by omega)] at hd
      exact h.od j hj hd
end
end Go.Proofs.YtohfjpahdoodgaaDoor
