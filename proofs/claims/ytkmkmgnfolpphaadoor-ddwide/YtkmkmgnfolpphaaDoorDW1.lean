/- A chain of And over very many variables, plainly: the table behind each step. -/
import Derived.Test.YtkmkmgnfolpphaaDoorDDA
namespace Go.Proofs.YtkmkmgnfolpphaaDoor

/-- The chain's last diagram, k variables done. -/
def fC (k : Nat) : Int := if k = 0 then 1 else 2 * (k : Int)
/-- The table then. -/
def nsC (V : Nat) : Nat → List T3
  | 0 => [((V : Int), 0, 0), ((V : Int), 1, 1)]
  | 1 => [((V : Int), 0, 0), ((V : Int), 1, 1), ((V : Int) - 1, 0, 1)]
  | k + 2 => nsC V (k + 1) ++ [((V : Int) - (k : Int) - 2, 0, 1), ((V : Int) - (k : Int) - 2, 0, fC (k + 1))]
theorem nsC_len (V : Nat) : ∀ k, (nsC V (k + 1)).length = 2 * k + 3
  | 0 => rfl
  | k + 1 => by show (nsC V (k + 1) ++ _).length = _; rw [List.length_append, nsC_len V k]; simp; omega
theorem nsC_var (V : Nat) : ∀ k, ∀ n ∈ nsC V k, (V : Int) - (k : Int) ≤ n.1
  | 0, n, h => by
    simp only [nsC, List.mem_cons, List.not_mem_nil, or_false] at h
    rcases h with rfl | rfl <;> simp
  | 1, n, h => by
    simp only [nsC, List.mem_cons, List.not_mem_nil, or_false] at h
    rcases h with rfl | rfl | rfl <;> simp <;> omega
  | k + 2, n, h => by
    simp only [nsC, List.mem_append, List.mem_cons, List.not_mem_nil, or_false] at h
    rcases h with h | rfl | rfl
    · have := nsC_var V (k + 1) n h; omega
    · simp; omega
    · simp; omega
theorem findN_fresh {ns : List T3} {n : T3} (h : ∀ m ∈ ns, m ≠ n) : findN ns n = none := by
  unfold findN
  rw [Option.map_eq_none_iff, List.findIdx?_eq_none_iff]
  intro m hm
  simp [h m hm]
theorem cntF_le (ns : List T3) : cntF ns ≤ ns.length := by
  unfold cntF
  exact Nat.le_trans List.countP_le_length (by simp)
theorem at3_nth {ns : List T3} {i : Nat} {n : T3} (h : ns[i]? = some n) {j : Int} (hj : j = (i : Int)) : at3 ns j = n := by rw [hj]; exact at3_of h
/-- A new node is made. -/
theorem nodeR_new {most : Nat} {ns : List T3} {gn : Nat} {top no yes : Int} (hn : no ≠ yes) (hf : ∀ m ∈ ns, m ≠ (top, no, yes)) (hc : ns.length < most) : nodeR most ⟨ns, [], gn⟩ top no yes = some ((ns.length : Int), ⟨ns ++ [(top, no, yes)], [], gn⟩) := by
  have h1 := cntF_le ns
  unfold nodeR
  rw [if_neg hn, findN_fresh hf]
  simp only
  rw [if_neg (by omega)]
  rfl
/-- The chain's nodes where they stand. -/
theorem nsC_at (V : Nat) : ∀ k, (nsC V k)[0]? = some ((V : Int), 0, 0) ∧ (nsC V k)[1]? = some ((V : Int), 1, 1) ∧ (∀ j, 1 ≤ j → j ≤ k → ∃ n, (nsC V k)[(fC j).toNat]? = some n ∧ n = ((V : Int) - (j : Int), 0, fC (j - 1)))
  | 0 => ⟨rfl, rfl, fun j h1 h2 => by omega⟩
  | 1 => ⟨rfl, rfl, fun j h1 h2 => by
      obtain rfl : j = 1 := by omega
      exact ⟨_, rfl, rfl⟩⟩
  | k + 2 => by
    obtain ⟨h0, h1, h2⟩ := nsC_at V (k + 1)
    have hl := nsC_len V k
    have app : ∀ (i : Nat) (n : T3), (nsC V (k + 1))[i]? = some n → (nsC V (k + 2))[i]? = some n := fun i n h => by
      show (nsC V (k + 1) ++ _)[i]? = _
      rw [List.getElem?_append_left (List.getElem?_eq_some_iff.1 h).1]; exact h
    refine ⟨app _ _ h0, app _ _ h1, fun j j1 j2 => ?_⟩
    by_cases hj : j = k + 2
    · subst hj
      refine ⟨_, ?_, rfl⟩
      show (nsC V (k + 1) ++ _)[(fC (k + 2)).toNat]? = _
      have e : (fC (k + 2)).toNat = (nsC V (k + 1)).length + 1 := by unfold fC; rw [hl]; simp; omega
      rw [e, List.getElem?_append_right (by omega)]
      simp [Nat.add_sub_cancel_left]
      omega
    · obtain ⟨n, q1, q2⟩ := h2 j j1 (by omega)
      exact ⟨n, app _ _ q1, q2⟩
def SC (V k : Nat) : St := ⟨nsC V k, [], 0⟩
/-- A variable is made. -/
theorem chain_var0 {V most : Nat} (hm : 2 < most) : nodeR most (SC V 0) ((V : Int) - 1) 0 1 = some (2, SC V 1) := by
  have h := nodeR_new (most := most) (ns := nsC V 0) (gn := 0) (top := (V : Int) - 1) (no := 0) (yes := 1) (by decide) (fun m hm e => by
    have := nsC_var V 0 m hm
    rw [e] at this; simp at this; omega) (by show 2 < most; exact hm)
  exact h
theorem chain_var {V most k : Nat} (hm : 2 * k + 5 < most) : nodeR most (SC V (k + 1)) ((V : Int) - (k : Int) - 2) 0 1 = some (2 * (k : Int) + 3, ⟨nsC V (k + 1) ++ [((V : Int) - (k : Int) - 2, 0, 1)], [], 0⟩) := by
  have h := nodeR_new (most := most) (ns := nsC V (k + 1)) (gn := 0) (top := (V : Int) - (k : Int) - 2) (no := 0) (yes := 1) (by decide) (fun m hm e => by
    have := nsC_var V (k + 1) m hm
    rw [e] at this; simp at this; omega) (by rw [nsC_len]; omega)
  rw [nsC_len] at h
  rw [show 2 * (k : Int) + 3 = ((2 * k + 3 : Nat) : Int) by omega]
  exact h
/-- Nothing is asked of And of the first. -/
theorem chain_and0 {V most : Nat} : ansQ V most (SC V 1) (2, 1, 0) = some (2, SC V 1) := by
  unfold ansQ
  rw [solveR]
  rfl
theorem solveR_known {vars most n : Nat} {S : St} {R : Rs} {q p : T3} {f : Int} (hp : plainF q = p) (hk : knownF p = some f) : solveR vars most (n + 1) S R q = some (f, S, R) := by
  rw [solveR, hp, hk]
theorem solveR_one {vars most n : Nat} {S S1 S2 S3 : St} {R R1 R2 : Rs} {q p a b : T3} {top no yes f : Int} (hp : plainF q = p) (hk : knownF p = none) (hl : lookR R p = none) (ht : topF vars S.ns p = top)
    (ha : halfF S.ns top false p = a) (h1 : solveR vars most n S R a = some (no, S1, R1)) (hb : halfF S1.ns top true p = b) (h2 : solveR vars most n S1 R1 b = some (yes, S2, R2)) (h3 : nodeR most S2 top no yes = some (f, S3)) :
    solveR vars most (n + 1) S R q = some (f, S3, R2 ++ [(p, f)]) := by
  rw [solveR, hp, hk, hl]
  simp only
  rw [ht, ha, h1]
  simp only
  rw [hb, h2]
  simp only
  rw [h3]
theorem plain_of {f g h : Int} (hg : g ≠ -1) (h1 : f ≠ g) (h2 : f ≠ h) : plainF (f, g, h) = plainG f g h := by
  unfold plainF
  dsimp only
  rw [if_neg hg, if_neg h1, if_neg h2]
theorem plain_and {a b : Int} (h1 : 2 ≤ b) (h2 : b < a) : plainF (a, b, 0) = (b, a, 0) := by
  rw [plain_of (by omega) (by omega) (by omega), plainG, if_pos rfl, Int.min_eq_right (by omega), Int.max_eq_left (by omega)]
theorem plain_f00 {f : Int} (h : 2 ≤ f) : plainF (f, 0, 0) = (0, f, 0) := by
  rw [plain_of (by omega) (by omega) (by omega), plainG, if_pos rfl, Int.min_eq_right (by omega), Int.max_eq_left (by omega)]
theorem plain_f10 {f : Int} (h : 2 ≤ f) : plainF (f, 1, 0) = (1, f, 0) := by
  rw [plain_of (by omega) (by omega) (by omega), plainG, if_pos rfl, Int.min_eq_right (by omega), Int.max_eq_left (by omega)]
theorem plain_f01 {f : Int} (h : 2 ≤ f) : plainF (f, 0, 1) = (f, 0, 1) := by
  rw [plain_of (by omega) (by omega) (by omega), plainG, if_neg (by omega), if_neg (by omega)]
theorem known_none' {a b c : Int} (h1 : 2 ≤ b) (h2 : a ≠ c) : knownF (b, a, c) = none := by
  unfold knownF
  dsimp only
  rw [if_neg (by omega), if_neg (by omega)]
theorem known_one {f : Int} (h : 2 ≤ f) : knownF (1, f, 0) = some f := by
  unfold knownF
  dsimp only
  rw [if_neg (by omega), if_pos rfl]
theorem side_same {ns : List T3} {top e : Int} {b : Bool} (h : (at3 ns e).1 ≠ top) : sideF ns top b e = e := by
  unfold sideF
  by_cases h1 : e = -1
  · rw [if_pos h1]
  · rw [if_neg h1, if_neg h]
theorem side_in {ns : List T3} {top e lo hi : Int} {b : Bool} (h0 : e ≠ -1) (h : at3 ns e = (top, lo, hi)) : sideF ns top b e = if b then hi else lo := by
  unfold sideF
  rw [if_neg h0, h, if_pos rfl]
/-- And of a variable and the chain behind it. -/
theorem chain_and {V most k : Nat} (hk : k + 2 ≤ V) (hm : 2 * k + 5 < most) : ansQ V most ⟨nsC V (k + 1) ++ [((V : Int) - (k : Int) - 2, 0, 1)], [], 0⟩ (2 * (k : Int) + 3, fC (k + 1), 0) = some (fC (k + 2), SC V (k + 2)) := by
  obtain ⟨a0, a1, af⟩ := nsC_at V (k + 1)
  have hl := nsC_len V k
  obtain ⟨nf, f1, f2⟩ := af (k + 1) (by omega) (Nat.le_refl _)
  have hfc : fC (k + 1) = 2 * (k : Int) + 2 := by unfold fC; rw [if_neg (by omega)]; omega
  have hfn : (fC (k + 1)).toNat = 2 * k + 2 := by rw [hfc]; omega
  obtain ⟨top, htop⟩ : ∃ top, top = (V : Int) - (k : Int) - 2 := ⟨_, rfl⟩
  rw [← htop]
  have app : ∀ (i : Nat) (n : T3), (nsC V (k + 1))[i]? = some n → (nsC V (k + 1) ++ [(top, 0, 1)])[i]? = some n := fun i n h => by
    rw [List.getElem?_append_left (List.getElem?_eq_some_iff.1 h).1]; exact h
  have b0 : at3 (nsC V (k + 1) ++ [(top, 0, 1)]) 0 = ((V : Int), 0, 0) := at3_nth (app _ _ a0) rfl
  have bf : at3 (nsC V (k + 1) ++ [(top, 0, 1)]) (fC (k + 1)) = nf := at3_nth (app _ _ f1) (by rw [hfn, hfc]; omega)
  have bv : at3 (nsC V (k + 1) ++ [(top, 0, 1)]) (2 * (k : Int) + 3) = (top, 0, 1) := by
    refine at3_nth (i := 2 * k + 3) ?_ (by omega)
    rw [List.getElem?_append_right (by omega), hl]; simp
  rw [hfc] at bf ⊢
  have ht : topF V (nsC V (k + 1) ++ [(top, 0, 1)]) (2 * (k : Int) + 2, 2 * (k : Int) + 3, 0) = top := by
    unfold topF varOf
    simp only
    rw [if_neg (by omega), if_neg (by omega), if_neg (by omega), bf, bv, b0, f2]
    simp only
    omega
  have hs : ∀ b, halfF (nsC V (k + 1) ++ [(top, 0, 1)]) top b (2 * (k : Int) + 2, 2 * (k : Int) + 3, 0) = (2 * (k : Int) + 2, (if b then 1 else 0), 0) := fun b => by
    unfold halfF
    simp only
    rw [side_same (by rw [bf, f2]; simp only; omega), side_in (by omega) bv, side_same (by rw [b0]; simp only; omega)]
  have hn : nodeR most ⟨nsC V (k + 1) ++ [(top, 0, 1)], [], 0⟩ top 0 (2 * (k : Int) + 2) = some (fC (k + 2), SC V (k + 2)) := by
    have h := nodeR_new (most := most) (ns := nsC V (k + 1) ++ [(top, 0, 1)]) (gn := 0) (top := top) (no := 0) (yes := 2 * (k : Int) + 2) (by omega) (fun m hm e => by
      rcases List.mem_append.1 hm with hm | hm
      · have := nsC_var V (k + 1) m hm
        rw [e] at this; simp only at this; omega
      · rw [List.mem_singleton.1 hm] at e
        simp at e; omega) (by rw [List.length_append, hl]; simp; omega)
    rw [h]
    have e1 : fC (k + 2) = (((nsC V (k + 1) ++ [(top, 0, 1)]).length : Nat) : Int) := by rw [List.length_append, hl]; unfold fC; rw [if_neg (by omega)]; simp; omega
    rw [e1]
    unfold SC
    show some (_, (⟨(nsC V (k + 1) ++ [(top, 0, 1)]) ++ [(top, 0, 2 * (k : Int) + 2)], [], 0⟩ : St)) = some (_, ⟨nsC V (k + 1) ++ [((V : Int) - (k : Int) - 2, 0, 1), ((V : Int) - (k : Int) - 2, 0, fC (k + 1))], [], 0⟩)
    rw [← htop, hfc, List.append_assoc]; rfl
  obtain ⟨n, hV⟩ : ∃ n, V = n + 1 := ⟨V - 1, by omega⟩
  have h := solveR_one (vars := V) (most := most) (n := n + 1) (S := ⟨nsC V (k + 1) ++ [(top, 0, 1)], [], 0⟩) (R := []) (plain_and (a := 2 * (k : Int) + 3) (b := 2 * (k : Int) + 2) (by omega) (by omega)) (known_none' (by omega) (by omega)) rfl ht
    (hs false) (solveR_known (plain_f00 (by omega)) rfl) (hs true) (solveR_known (plain_f10 (by omega)) (known_one (by omega))) hn
  unfold ansQ
  rw [show V + 1 = n + 1 + 1 by omega, h]
  rfl
/-- What Not of the chain adds. -/
def gN (L j : Nat) : Int := if j = 0 then 0 else (L : Int) + (j : Int) - 1
def nN (V L : Nat) : Nat → List T3
  | 0 => []
  | j + 1 => nN V L j ++ [((V : Int) - (j : Int) - 1, 1, gN L j)]
def RN (L : Nat) : Nat → Rs
  | 0 => []
  | j + 1 => RN L j ++ [((fC (j + 1), 0, 1), gN L (j + 1))]
theorem nN_len (V L : Nat) : ∀ j, (nN V L j).length = j
  | 0 => rfl
  | j + 1 => by show (nN V L j ++ _).length = _; rw [List.length_append, nN_len V L j]; rfl
theorem nN_var (V L : Nat) : ∀ j, ∀ n ∈ nN V L j, (V : Int) - (j : Int) ≤ n.1
  | 0, n, h => nomatch h
  | j + 1, n, h => by
    rcases List.mem_append.1 h with h | h
    · have := nN_var V L j n h; omega
    · rw [List.mem_singleton.1 h]; simp only; omega
theorem nsC_second (V : Nat) : ∀ k, ∀ n ∈ nsC V k, n.1 < V → n.2.1 = 0
  | 0, n, h, hv => by
    simp only [nsC, List.mem_cons, List.not_mem_nil, or_false] at h
    rcases h with rfl | rfl <;> simp at hv
  | 1, n, h, hv => by
    simp only [nsC, List.mem_cons, List.not_mem_nil, or_false] at h
    rcases h with rfl | rfl | rfl
    · simp at hv
    · simp at hv
    · rfl
  | k + 2, n, h, hv => by
    simp only [nsC, List.mem_append, List.mem_cons, List.not_mem_nil, or_false] at h
    rcases h with h | rfl | rfl
    · exact nsC_second V (k + 1) n h hv
    · rfl
    · rfl
theorem chain_not {V most : Nat} (hm : (nsC V V).length + V < most) : ∀ (j n : Nat), j ≤ V → j ≤ n → solveR V most (n + 1) (SC V V) [] (fC j, 0, 1) = some (gN (nsC V V).length j, ⟨nsC V V ++ nN V (nsC V V).length j, [], 0⟩, RN (nsC V V).length j)
  | 0, n, _, _ => by
    rw [solveR_known (p := (0, 1, 0)) (f := 0) rfl rfl]
    show some (_, SC V V, _) = some (_, ⟨nsC V V ++ [], [], 0⟩, _)
    rw [List.append_nil]; rfl
  | j + 1, 0, _, h => by omega
  | j + 1, n + 1, hV, hn => by
    obtain ⟨a0, a1, af⟩ := nsC_at V V
    obtain ⟨nf, f1, f2⟩ := af (j + 1) (by omega) hV
    obtain ⟨L, hL⟩ : ∃ L, L = (nsC V V).length := ⟨_, rfl⟩
    have IH := chain_not hm j n (by omega) (by omega)
    rw [← hL] at IH hm ⊢
    have hL2 : 2 ≤ L := by
      obtain ⟨v, rfl⟩ : ∃ v, V = v + 1 := ⟨V - 1, by omega⟩
      rw [hL, nsC_len]; omega
    have hfc : 2 ≤ fC (j + 1) := by unfold fC; rw [if_neg (by omega)]; omega
    have b0 : at3 (nsC V V) 0 = ((V : Int), 0, 0) := at3_nth a0 rfl
    have b1 : at3 (nsC V V) 1 = ((V : Int), 1, 1) := at3_nth a1 rfl
    have bf : at3 (nsC V V) (fC (j + 1)) = ((V : Int) - ((j + 1 : Nat) : Int), 0, fC j) := by rw [at3_nth f1 (by omega), f2]; rfl
    have ht : topF V (nsC V V) (fC (j + 1), 0, 1) = (V : Int) - (j : Int) - 1 := by
      unfold topF varOf
      simp only
      rw [if_neg (by omega), if_neg (by decide), if_neg (by decide), bf, b0, b1]
      simp only
      omega
    have hs : ∀ b, halfF (nsC V V) ((V : Int) - (j : Int) - 1) b (fC (j + 1), 0, 1) = ((if b then fC j else 0), 0, 1) := fun b => by
      unfold halfF
      simp only
      rw [side_in (by omega) (show at3 (nsC V V) (fC (j + 1)) = ((V : Int) - (j : Int) - 1, 0, fC j) by rw [bf, show (V : Int) - ((j + 1 : Nat) : Int) = (V : Int) - (j : Int) - 1 by omega]), side_same (by rw [b0]; simp only; omega), side_same (by rw [b1]; simp only; omega)]
    have hnode : nodeR most ⟨nsC V V ++ nN V L j, [], 0⟩ ((V : Int) - (j : Int) - 1) 1 (gN L j) = some (gN L (j + 1), ⟨nsC V V ++ nN V L (j + 1), [], 0⟩) := by
      have h := nodeR_new (most := most) (ns := nsC V V ++ nN V L j) (gn := 0) (top := (V : Int) - (j : Int) - 1) (no := 1) (yes := gN L j) (by unfold gN; split <;> omega) (fun m hm e => by
        rcases List.mem_append.1 hm with hm | hm
        · have h1 := nsC_second V V m hm (by rw [e]; simp only; omega)
          rw [e] at h1; simp at h1
        · have := nN_var V L j m hm
          rw [e] at this; simp only at this; omega) (by rw [List.length_append, nN_len, ← hL]; omega)
      rw [h]
      have e1 : gN L (j + 1) = (((nsC V V ++ nN V L j).length : Nat) : Int) := by rw [List.length_append, nN_len, ← hL]; unfold gN; rw [if_neg (by omega)]; omega
      rw [e1, List.append_assoc]; rfl
    exact solveR_one (vars := V) (most := most) (n := n + 1) (S := SC V V) (R := []) (plain_f01 hfc) (known_none' hfc (by decide)) rfl ht (hs false) (solveR_known (p := (0, 1, 1)) (f := 1) rfl rfl) (hs true) IH hnode
end Go.Proofs.YtkmkmgnfolpphaaDoor
