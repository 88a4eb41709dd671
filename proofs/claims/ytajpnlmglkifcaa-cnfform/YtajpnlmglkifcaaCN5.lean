/- Contracts (clauses): which literals are untold: the pure part. -/
import Derived.Test.YtajpnlmglkifcaaCN4
namespace Go.Proofs.Ytajpnlmglkifcaa
open Go.RowKit
set_option linter.unusedSimpArgs false
set_option linter.unusedVariables false

theorem tell_any {w : World} {F : Nat → Prop} {B b e g mo mv mp l : Nat} {ks : List Kd} {vars : Int} {V : Int → Option Int} {T : List Nat} {v : Value} {us : List Value} {C : List (List Int)}
    (hE : En w e g vars mv mp V (polF T)) (hG : Gr w F g mo ks) (hF : ∀ k, F k → k < B ∧ k ≠ mp) (hT : Gt w B b v us C) (heB : e < B) (hvB : mv < B) (hpB : mp < B) (hBw : B ≤ w.heap.size)
    (hl : l ∉ T) (hll : l / 2 < ks.length) (hks : ks.length ≤ 40000) (hV : ∀ n, 0 ≤ (V n).getD 0 ∧ (V n).getD 0 ≤ 1000000) (hC : C.length ≤ 90000) :
    Calls Try.prog 44 #[.pointer (some ⟨e, 0, none⟩), .pointer (some ⟨b, 0, none⟩), .int .i64 (l : Int)] w fun ev w' => ev = .returned (.tuple #[]) ∧ En w' e g vars mv mp V (polF (T ++ [l])) ∧ Gr w' F g mo ks ∧ (∃ v' us', Gt w' B b v' us' (C ++ cls ks V l)) ∧ Tn w w' (fun q => q = mp ∨ B ≤ q) := by
  unfold cls
  by_cases h0 : l / 2 = 0
  · rw [if_pos h0]
    exact tell_0 hE hG hF hT heB hvB hpB hBw hl hll hks hV hC h0
  · rw [if_neg h0]
    obtain ⟨k, hk⟩ : ∃ k, ks[l / 2]? = some k := ⟨_, List.getElem?_eq_getElem hll⟩
    rw [hk]
    cases hi : isK k
    · simp only [hi]
      exact tell_i hE hG hF hT heB hvB hpB hBw hl hll hks hV hC h0 hk hi
    · simp only [hi]
      rcases Nat.mod_two_eq_zero_or_one l with e1 | e1
      · simp only [e1]
        exact tell_u hE hG hF hT heB hvB hpB hBw hl hll hks hV hC h0 hk hi e1
      · simp only [e1]
        exact tell_t hE hG hF hT heB hvB hpB hBw hl hll hks hV hC h0 hk hi e1
/-- A literal turned as often as t says. -/
def xr (k t : Nat) : Nat := if t = 0 then k else k + 1 - 2 * (k % 2)
/-- The literals that a literal's meaning hangs on. -/
def kidsL (ks : List Kd) (x : Nat) : List Nat := match ks[x / 2]? with
  | some k => if isK k then [xr k.1 (x % 2), xr k.2 (x % 2)] else []
  | none => []
theorem xr_half (k t : Nat) : xr k t / 2 = k / 2 := by unfold xr; split <;> omega
theorem kidsL_lt {ks : List Kd} (hv : Inv ks) {x y : Nat} (hx : x / 2 < ks.length) (hy : y ∈ kidsL ks x) : y / 2 < x / 2 ∧ y / 2 < ks.length := by
  unfold kidsL at hy
  obtain ⟨k, hk⟩ : ∃ k, ks[x / 2]? = some k := ⟨_, List.getElem?_eq_getElem hx⟩
  rw [hk] at hy
  simp only at hy
  split at hy
  · rename_i hi
    have := hv.kid (x / 2) k hk (isK_ne hi)
    rcases List.mem_cons.1 hy with e | hy
    · rw [e, xr_half]; omega
    · rw [List.mem_singleton.1 hy, xr_half]; omega
  · cases hy
/-- While the walk goes on. -/
structure UI (ks : List Kd) (T : List Nat) (l : Nat) (found todo : List Nat) : Prop where
  nd : found.Nodup
  new : ∀ x ∈ found, x ∉ T
  vf : ∀ x ∈ found, x / 2 < ks.length
  vt : ∀ x ∈ todo, x / 2 < ks.length
  cl : ∀ x ∈ found, ∀ y ∈ kidsL ks x, y ∈ T ∨ y ∈ found ∨ y ∈ todo
  st : l ∈ T ∨ l ∈ found ∨ l ∈ todo
  fr : ∀ x, x ∈ found ∨ x ∈ todo → x = l ∨ ∃ y ∈ found, x ∈ kidsL ks y
  sz : todo.length ≤ found.length + 1
theorem UI.start {ks : List Kd} {T : List Nat} {l : Nat} (h : l / 2 < ks.length) : UI ks T l [] [l] :=
  ⟨List.nodup_nil, (fun _ h => nomatch h), (fun _ h => nomatch h), (fun x hx => by rw [List.mem_singleton.1 hx]; exact h), (fun _ h => nomatch h), Or.inr (Or.inr (by simp)), (fun x hx => by
    rcases hx with hx | hx
    · cases hx
    · exact Or.inl (List.mem_singleton.1 hx)), by simp⟩
theorem UI.skip {ks : List Kd} {T found td : List Nat} {l x : Nat} (h : UI ks T l found (td ++ [x])) (hx : x ∈ T ∨ x ∈ found) : UI ks T l found td := by
  have key : ∀ y, y ∈ T ∨ y ∈ found ∨ y ∈ td ++ [x] → y ∈ T ∨ y ∈ found ∨ y ∈ td := by
    intro y hy
    rcases hy with hy | hy | hy
    · exact Or.inl hy
    · exact Or.inr (Or.inl hy)
    · rcases List.mem_append.1 hy with hy | hy
      · exact Or.inr (Or.inr hy)
      · rw [List.mem_singleton.1 hy]
        rcases hx with hx | hx
        · exact Or.inl hx
        · exact Or.inr (Or.inl hx)
  refine ⟨h.nd, h.new, h.vf, fun y hy => h.vt y (by simp [hy]), fun z hz y hy => key y (h.cl z hz y hy), key l h.st, fun y hy => h.fr y (hy.imp id (fun q => by simp [q])), ?_⟩
  have := h.sz
  simp at this
  omega
theorem UI.take {ks : List Kd} {T found td : List Nat} {l x : Nat} (hv : Inv ks) (h : UI ks T l found (td ++ [x])) (hx : x ∉ T) (hf : x ∉ found) : UI ks T l (found ++ [x]) (td ++ kidsL ks x) := by
  have hxv := h.vt x (by simp)
  have key : ∀ y, y ∈ T ∨ y ∈ found ∨ y ∈ td ++ [x] → y ∈ T ∨ y ∈ found ++ [x] ∨ y ∈ td ++ kidsL ks x := by
    intro y hy
    rcases hy with hy | hy | hy
    · exact Or.inl hy
    · exact Or.inr (Or.inl (by simp [hy]))
    · rcases List.mem_append.1 hy with hy | hy
      · exact Or.inr (Or.inr (by simp [hy]))
      · exact Or.inr (Or.inl (by simp [List.mem_singleton.1 hy]))
  refine ⟨?_, ?_, ?_, ?_, ?_, key l h.st, ?_, ?_⟩
  · rw [List.nodup_append]
    exact ⟨h.nd, by simp, fun a ha b hb e => hf (by rw [List.mem_singleton.1 hb] at e; rw [← e]; exact ha)⟩
  · intro y hy
    rcases List.mem_append.1 hy with hy | hy
    · exact h.new y hy
    · rw [List.mem_singleton.1 hy]; exact hx
  · intro y hy
    rcases List.mem_append.1 hy with hy | hy
    · exact h.vf y hy
    · rw [List.mem_singleton.1 hy]; exact hxv
  · intro y hy
    rcases List.mem_append.1 hy with hy | hy
    · exact h.vt y (by simp [hy])
    · exact (kidsL_lt hv hxv hy).2
  · intro z hz y hy
    rcases List.mem_append.1 hz with hz | hz
    · exact key y (h.cl z hz y hy)
    · rw [List.mem_singleton.1 hz] at hy
      exact Or.inr (Or.inr (by simp [hy]))
  · intro y hy
    have old : ∀ z, z ∈ found ∨ z ∈ td ++ [x] → z = l ∨ ∃ q ∈ found ++ [x], z ∈ kidsL ks q := fun z hz => by
      rcases h.fr z hz with e | ⟨q, hq, e⟩
      · exact Or.inl e
      · exact Or.inr ⟨q, by simp [hq], e⟩
    rcases hy with hy | hy
    · rcases List.mem_append.1 hy with hy | hy
      · exact old y (Or.inl hy)
      · exact old y (Or.inr (by simp [List.mem_singleton.1 hy]))
    · rcases List.mem_append.1 hy with hy | hy
      · exact old y (Or.inr (by simp [hy]))
      · exact Or.inr ⟨x, by simp, hy⟩
  · have h1 := h.sz
    have h2 : (kidsL ks x).length ≤ 2 := by
      unfold kidsL
      split
      · split <;> simp
      · simp
    simp at h1 ⊢
    omega
theorem nodup_len : ∀ (N : Nat) (l : List Nat), l.Nodup → (∀ x ∈ l, x < N) → l.length ≤ N
  | 0, l, _, h => by
    cases l with
    | nil => simp
    | cons a r => exact absurd (h a (by simp)) (by omega)
  | N + 1, l, hn, h => by
    have h1 := nodup_len N (l.erase N) (hn.erase N) (fun x hx => by
      have h2 := h x (List.mem_of_mem_erase hx)
      have h3 : x ≠ N := fun e => by
        subst e
        exact (hn.mem_erase_iff.1 hx).1 rfl
      omega)
    have h2 : l.length ≤ (l.erase N).length + 1 := by
      rw [List.length_erase]
      split <;> omega
    omega
/-- Whether a literal is told, or found, as the bits say it. -/
theorem and_or (a0 a1 b0 b1 : Bool) : bits .and .i64 (bits .or .i64 ((if a0 then 1 else 0) + (if a1 then 2 else 0)) ((if b0 then 1 else 0) + (if b1 then 2 else 0))) 1 = (if a0 || b0 then 1 else 0) ∧ bits .and .i64 (bits .or .i64 ((if a0 then 1 else 0) + (if a1 then 2 else 0)) ((if b0 then 1 else 0) + (if b1 then 2 else 0))) 2 = (if a1 || b1 then 2 else 0) := by
  cases a0 <;> cases a1 <;> cases b0 <;> cases b1 <;> decide
theorem seen_iff (T S : List Nat) (x : Nat) : (bits .and .i64 (bits .or .i64 (pvT T (x / 2)) (pvT S (x / 2))) (pol x) != 0) = decide (x ∈ T ∨ x ∈ S) := by
  have h := and_or (decide (2 * (x / 2) ∈ T)) (decide (2 * (x / 2) + 1 ∈ T)) (decide (2 * (x / 2) ∈ S)) (decide (2 * (x / 2) + 1 ∈ S))
  simp only [decide_eq_true_eq] at h
  unfold pvT pol
  rcases Nat.mod_two_eq_zero_or_one x with e | e
  · have e1 : 2 * (x / 2) = x := by omega
    rw [if_pos e, h.1]
    simp only [e1]
    by_cases h1 : x ∈ T <;> by_cases h2 : x ∈ S <;> simp [h1, h2]
  · have e1 : 2 * (x / 2) + 1 = x := by omega
    have hp : ¬ x % 2 = 0 := by omega
    rw [if_neg hp, h.2]
    simp only [e1]
    by_cases h1 : x ∈ T <;> by_cases h2 : x ∈ S <;> simp [h1, h2]
theorem xor_xr {k : Nat} (hk : k < 1000000) {t : Nat} (ht : t < 2) : bits .xor .i64 (k : Int) (t : Int) = (xr k t : Int) := by
  rcases (show t = 0 ∨ t = 1 by omega) with e | e
  · subst e
    rw [bits_xor]
    unfold xr
    rw [if_pos rfl, show BitVec.ofInt 64 ((0 : Nat) : Int) = 0#64 from rfl, BitVec.xor_zero, BitVec.toNat_ofInt]
    unfold wrap64
    have e64 : ((2 ^ 64 : Nat) : Int) = 18446744073709551616 := rfl
    rw [e64]
    omega
  · subst e
    rw [bits_xor]
    have h1 := xor_int (a := (k : Int)) (by omega) (by omega)
    have h2 : wrap64 (((BitVec.ofInt 64 (k : Int) ^^^ BitVec.ofInt 64 ((1 : Nat) : Int)).toNat : Nat) : Int) = tu (k : Int) := h1
    rw [h2]
    unfold tu xr
    rw [if_neg (by decide)]
    omega
end Go.Proofs.Ytajpnlmglkifcaa
