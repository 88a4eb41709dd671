import Derived.Test.YtedldoobmmhloaaY19
import Derived.Test.YtedldoobmmhloaaMg46
namespace Go.Proofs.Ytedldoobmmhloaa
open Go.RowKit
set_option linter.unusedSimpArgs false
set_option linter.unusedVariables false
def Kid (n : Nd) (j : Nat) : Prop := (j : Int) = n.a ∨ (j : Int) = n.b ∨ (j : Int) = n.c
inductive Rch (ns : List Nd) (id : Nat) : Nat → Prop
 | here : Rch ns id id
 | step {i j : Nat} {n : Nd} : Rch ns id i → 1 ≤ i → ns[i - 1]? = some n → Kid n j → Rch ns id j
theorem kid_lt {ns : List Nd} (hv : Inv ns) {i j : Nat} {n : Nd} (h1 : 1 ≤ i) (hn : ns[i - 1]? = some n) (hk : Kid n j) : j < i := by
 have := hv.kids (i - 1) n hn
 rcases hk with h | h | h <;> omega
theorem Rch.le {ns : List Nd} (hv : Inv ns) {id j : Nat} (h : Rch ns id j) : j ≤ id := by
 induction h with
 | here => exact Nat.le_refl _
 | step _ h1 hn hk ih => have := kid_lt hv h1 hn hk; omega
theorem Rch.nought {ns : List Nd} (hv : Inv ns) {j : Nat} (h : Rch ns 0 j) : j = 0 := by have := h.le hv; omega
structure Way (ns : List Nd) (id t : Nat) : Prop where
 only : ∀ j, (dn ns id t).1 j = true → Rch ns id j
 top : (dn ns id t).1 id = true
 shut : ∀ (i : Nat) (n : Nd), id - t < i → i ≤ id → (dn ns id t).1 i = true → ns[i - 1]? = some n → ∀ j, Kid n j → (dn ns id t).1 j = true
 list : (dn ns id t).2.reverse = ((List.range' (id - t + 1) t).filter (dn ns id t).1).map (fun j : Nat => (j : Int))
theorem way_any {ns : List Nd} (hv : Inv ns) {id : Nat} (hid : id ≤ ns.length) : ∀ t, t ≤ id → Way ns id t
 | 0, _ => ⟨fun j hj => by
   have : j = id := of_decide_eq_true hj
   rw [this]; exact .here, decide_eq_true rfl, fun i n h1 h2 => by omega, rfl⟩
 | t + 1, ht => by
  have ih := way_any hv hid t (by omega)
  obtain ⟨k, hk⟩ : ∃ k, id = k + 1 + t := ⟨id - t - 1, by omega⟩
  have e1 : id - (k + 1) = t := by omega
  have e2 : id - k = t + 1 := by omega
  have e3 : id - t = k + 1 := by omega
  have e4 : id - (t + 1) = k := by omega
  obtain ⟨n, hn⟩ : ∃ n, ns[k]? = some n := ⟨_, List.getElem?_eq_getElem (by omega)⟩
  have er : List.range' (k + 1) (t + 1) = (k + 1) :: List.range' (k + 1 + 1) t := rfl
  have hl := ih.list
  rw [e3] at hl
  by_cases hm : (dn ns id t).1 (k + 1) = true
  ·have h := dn_yes (ns := ns) (id := id) (k := k) (by omega) (by rw [e1]; exact hm) hn
   rw [e1, e2] at h
   have hM : ∀ j, (dn ns id (t + 1)).1 j = true ↔ ((dn ns id t).1 j = true ∨ Kid n j) := fun j => by
    rw [h]
    simp only [Bool.or_eq_true, decide_eq_true_eq, Kid]
    constructor
    ·rintro (((h | h) | h) | h)
     ·exact Or.inl h
     ·exact Or.inr (Or.inl h)
     ·exact Or.inr (Or.inr (Or.inl h))
     ·exact Or.inr (Or.inr (Or.inr h))
    ·rintro (h | h | h | h)
     ·exact Or.inl (Or.inl (Or.inl h))
     ·exact Or.inl (Or.inl (Or.inr h))
     ·exact Or.inl (Or.inr h)
     ·exact Or.inr h
   have hL : (dn ns id (t + 1)).2 = (dn ns id t).2 ++ [((k + 1 : Nat) : Int)] := by rw [h]; rfl
   have hkid : ∀ j, Kid n j → j < k + 1 := fun j hj => kid_lt hv (i := k + 1) (by omega) (by simpa using hn) hj
   refine ⟨fun j hj => ?_, (hM _).2 (Or.inl ih.top), fun i n' h1 h2 hi hn' j hj => ?_, ?_⟩
   ·rcases (hM j).1 hj with h | h
    ·exact ih.only j h
    ·exact .step (ih.only _ hm) (by omega) (by simpa using hn) h
   ·rw [e4] at h1
    by_cases hik : i = k + 1
    ·subst hik
     have : n' = n := by simpa [hn] using hn'.symm
     subst this
     exact (hM j).2 (Or.inr hj)
    ·have hi' : (dn ns id t).1 i = true := by
      rcases (hM i).1 hi with h | h
      ·exact h
      ·have := hkid i h; omega
     exact (hM j).2 (Or.inl (ih.shut i n' (by omega) h2 hi' hn' j hj))
   ·rw [hL, List.reverse_append, hl, e4, er]
    have hf : (List.range' (k + 1 + 1) t).filter (dn ns id (t + 1)).1 = (List.range' (k + 1 + 1) t).filter (dn ns id t).1 := by
     apply List.filter_congr
     intro j hj
     have hj' : k + 1 + 1 ≤ j := (List.mem_range'_1.1 hj).1
     cases e : (dn ns id t).1 j
     ·cases e' : (dn ns id (t + 1)).1 j
      ·rfl
      ·rcases (hM j).1 e' with h | h
       ·rw [e] at h; cases h
       ·have := hkid j h; omega
     ·exact (hM j).2 (Or.inl e)
    rw [List.filter_cons, if_pos ((hM _).2 (Or.inl hm)), hf]
    rfl
  ·rw [Bool.not_eq_true] at hm
   have h := dn_no (ns := ns) (id := id) (k := k) (by omega) (by rw [e1]; exact hm)
   rw [e1, e2] at h
   refine ⟨fun j hj => ih.only j (by rw [h] at hj; exact hj), by rw [h]; exact ih.top, fun i n' h1 h2 hi hn' j hj => ?_, ?_⟩
   ·rw [e4] at h1
    rw [h] at hi ⊢
    by_cases hik : i = k + 1
    ·subst hik; rw [hm] at hi; cases hi
    ·exact ih.shut i n' (by omega) h2 hi hn' j hj
   ·rw [h, hl, e4, er, List.filter_cons, if_neg (by rw [hm]; decide)]
theorem cone_list {ns : List Nd} (hv : Inv ns) {id : Nat} (hid : id ≤ ns.length) : coneF ns id = ((List.range' 1 id).filter (dn ns id id).1).map (fun j : Nat => (j : Int)) := by
 have h := (way_any hv hid id (Nat.le_refl _)).list
 rw [Nat.sub_self] at h
 exact h
theorem mark_iff {ns : List Nd} (hv : Inv ns) {id : Nat} (hid : id ≤ ns.length) {j : Nat} : (dn ns id id).1 j = true ↔ Rch ns id j := by
 have hw := way_any hv hid id (Nat.le_refl _)
 refine ⟨hw.only j, fun h => ?_⟩
 induction h with
 | here => exact hw.top
 | step hr h1 hn hk ih => exact hw.shut _ _ (by omega) (hr.le hv) ih hn _ hk
theorem mem_cone {ns : List Nd} (hv : Inv ns) {id : Nat} (hid : id ≤ ns.length) {j : Nat} : (j : Int) ∈ coneF ns id ↔ 1 ≤ j ∧ Rch ns id j := by
 rw [cone_list hv hid]
 constructor
 ·intro h
  obtain ⟨x, hx, e⟩ := List.mem_map.1 h
  obtain rfl : x = j := by have e1 : (x : Int) = j := e; omega
  obtain ⟨h1, h2⟩ := List.mem_filter.1 hx
  exact ⟨(List.mem_range'_1.1 h1).1, (mark_iff hv hid).1 h2⟩
 ·rintro ⟨h1, h2⟩
  refine List.mem_map.2 ⟨j, List.mem_filter.2 ⟨List.mem_range'_1.2 ⟨h1, ?_⟩, (mark_iff hv hid).2 h2⟩, rfl⟩
  have := h2.le hv
  omega
theorem cone_in {ns : List Nd} (hv : Inv ns) {i x : Int} (h : x ∈ coneL ns i) : 1 ≤ x ∧ x ≤ i ∧ i ≤ (ns.length : Int) := by
 unfold coneL at h
 split at h
 ·rename_i hb
  have hb' : 1 ≤ i ∧ i ≤ (ns.length : Int) := by simpa [hasB] using hb
  have hid : i.toNat ≤ ns.length := by omega
  rw [cone_list hv hid] at h
  obtain ⟨y, hy, rfl⟩ := List.mem_map.1 h
  obtain ⟨h1, -⟩ := List.mem_filter.1 hy
  have := List.mem_range'_1.1 h1
  omega
 ·cases h
theorem mem_coneL {ns : List Nd} (hv : Inv ns) {i j : Nat} (h1 : 1 ≤ j) (hi : i ≤ ns.length) : (j : Int) ∈ coneL ns (i : Int) ↔ Rch ns i j := by
 unfold coneL
 by_cases h0 : 1 ≤ i
 ·rw [if_pos (by simp [hasB]; omega), Int.toNat_natCast, mem_cone hv hi]
  exact ⟨fun h => h.2, fun h => ⟨h1, h⟩⟩
 ·obtain rfl : i = 0 := by omega
  rw [if_neg (by simp [hasB])]
  exact ⟨(fun h => nomatch h), fun h => by have := h.nought hv; omega⟩
def used (n : Nd) : List Int := [n.a, n.b, n.c].take (ari n.op).toNat
structure Sok (ns : List Nd) : Prop where
 cst : ∀ n ∈ ns, n.op = 1 → sof ⟨n.w, n.lo, n.hi⟩ = n.s
 ops : ∀ n ∈ ns, ¬ n.op = 1 → ¬ n.op = 2 → srtF n.op n.p n.q ((used n).map (sAt ns)) = (n.s, 0)
def Kok (ns : List Nd) (M : List (Int × Bt)) : Prop := (∀ p ∈ M, Bk p.2) ∧ ∀ q v, getM M q = some v → sof v = sAt ns q
theorem getM_app (M : List (Int × Bt)) (p q : Int) (v : Bt) : getM (M ++ [(p, v)]) q = (getM M q).or (if p = q then some v else none) := by
 unfold getM
 rw [List.find?_append]
 cases h : List.find? (fun x => decide (x.1 = q)) M with
 | some x => simp
 | none =>
  by_cases e : p = q
  ·simp [e]
  ·simp [e]
theorem getM_mono {M : List (Int × Bt)} {p q : Int} {v : Bt} (h : (getM M q).isSome = true) : (getM (M ++ [(p, v)]) q).isSome = true := by
 rw [getM_app]
 cases e : getM M q with
 | some x => rfl
 | none => rw [e] at h; cases h
theorem getM_last (M : List (Int × Bt)) (p : Int) (v : Bt) : (getM (M ++ [(p, v)]) p).isSome = true := by
 rw [getM_app]
 cases getM M p <;> simp
def Good (ns : List Nd) (G : List (Int × Bt)) (p : Int) (n : Nd) : Prop := ns[(p - 1).toNat]? = some n ∧ 1 ≤ p ∧ (n.op = 2 → fits G p n.s = true)
theorem sAt_is {ns : List Nd} {p : Int} {n : Nd} (h : ns[(p - 1).toNat]? = some n) : sAt ns p = n.s := by unfold sAt; rw [h]; rfl
theorem fits_sof {G : List (Int × Bt)} {p s : Int} (h : fits G p s = true) : sof (kn G p) = s := by
 unfold fits at h
 simp only [Bool.and_eq_true, decide_eq_true_eq] at h
 unfold sof kn
 rw [if_pos h.1.2]; exact h.2
theorem pv_ok {A : Int → Int → Int → List Bt → Bt × Int} (hA : ApF A) {ns : List Nd} (hN : Nok ns) (hS : Sok ns) {G M : List (Int × Bt)} (hK : Kok ns M) {p : Int} {n : Nd} (hg : Good ns G p n) (hu : ∀ q ∈ used n, (getM M q).isSome = true) :
  (PVg A ns G M p).2 = 0 ∧ sof (PVg A ns G M p).1 = n.s := by
 obtain ⟨hn, -, hv⟩ := hg
 have hm := List.mem_of_getElem? hn
 unfold PVg
 rw [hn]
 simp only
 by_cases h1 : n.op = 1
 ·rw [if_pos h1]; exact ⟨rfl, hS.cst n hm h1⟩
 ·rw [if_neg h1]
  by_cases h2 : n.op = 2
  ·rw [if_pos h2, hv h2]; exact ⟨rfl, fits_sof (hv h2)⟩
  ·rw [if_neg h2]
   have e : ([n.a, n.b, n.c].map (kn M)).take (ari n.op).toNat = (used n).map (kn M) := by unfold used; rw [List.map_take]
   have har := hN.ars n hm
   have hlen : (used n).length = (ari n.op).toNat := by unfold used; rw [List.length_take]; simp; omega
   rw [e]
   have hsort : ((used n).map (kn M)).map sof = (used n).map (sAt ns) := by
    rw [List.map_map]
    refine List.map_congr_left fun q hq => ?_
    obtain ⟨v, hv⟩ := Option.isSome_iff_exists.1 (hu q hq)
    show sof (kn M q) = sAt ns q
    unfold kn
    rw [hv]; exact hK.2 q v hv
   have hF := hA n.op n.p n.q ((used n).map (kn M)) (fun b hb => by
    obtain ⟨i, -, rfl⟩ := List.mem_map.1 hb
    exact kn_bk hK.1 i) (by rw [List.length_map, hlen]; omega) (fun q => by
     have := congrArg List.length q
     rw [List.length_map, hlen] at this
     simp at this; omega) (hN.ps n hm)
   have hfit := hF.2.1 n.s (by rw [hsort]; exact hS.ops n hm h1 h2)
   exact ⟨hfit.1, hfit.2.2⟩
theorem vloop_ok {A : Int → Int → Int → List Bt → Bt × Int} (hA : ApF A) {ns : List Nd} (hN : Nok ns) (hS : Sok ns) {G : List (Int × Bt)} (hG : ∀ p ∈ G, Bk p.2) :
  ∀ (L : List Int) (M : List (Int × Bt)), Kok ns M → (∀ (j : Nat) (p : Int), L[j]? = some p → ∃ n, Good ns G p n ∧ ∀ q ∈ used n, (getM M q).isSome = true ∨ ∃ i, i < j ∧ L[i]? = some q) →
   (vLoop (PVg A ns G) L M).2 = 0 ∧ Kok ns (vLoop (PVg A ns G) L M).1 ∧ ∀ p, ((getM M p).isSome = true ∨ p ∈ L) → (getM (vLoop (PVg A ns G) L M).1 p).isSome = true
 | [], M, hK, _ => ⟨rfl, hK, fun p hp => by
   rcases hp with hp | hp
   ·exact hp
   ·cases hp⟩
 | p :: ps, M, hK, hL => by
  obtain ⟨n, hg, hu⟩ := hL 0 p rfl
  have hu' : ∀ q ∈ used n, (getM M q).isSome = true := fun q hq => by
   rcases hu q hq with h | ⟨i, hi, -⟩
   ·exact h
   ·omega
  have shift : ∀ M' : List (Int × Bt), (∀ q, (getM M q).isSome = true → (getM M' q).isSome = true) → (getM M' p).isSome = true → ∀ (j : Nat) (x : Int), ps[j]? = some x → ∃ n, Good ns G x n ∧ ∀ q ∈ used n, (getM M' q).isSome = true ∨ ∃ i, i < j ∧ ps[i]? = some q := by
   intro M' hmono hp j x hx
   obtain ⟨m, hm, hum⟩ := hL (j + 1) x hx
   refine ⟨m, hm, fun q hq => ?_⟩
   rcases hum q hq with h | ⟨i, hi, hiq⟩
   ·exact Or.inl (hmono q h)
   ·cases i with
    | zero =>
     have : p = q := Option.some.inj hiq
     subst this
     exact Or.inl hp
    | succ i => exact Or.inr ⟨i, by omega, hiq⟩
  by_cases hk : (getM M p).isSome = true
  ·have e : vLoop (PVg A ns G) (p :: ps) M = vLoop (PVg A ns G) ps M := by simp only [vLoop]; rw [if_pos hk]
   rw [e]
   obtain ⟨c1, c2, c3⟩ := vloop_ok hA hN hS hG ps M hK (shift M (fun _ h => h) hk)
   refine ⟨c1, c2, fun q hq => ?_⟩
   rcases hq with hq | hq
   ·exact c3 q (Or.inl hq)
   ·rcases List.mem_cons.1 hq with rfl | hq
    ·exact c3 _ (Or.inl hk)
    ·exact c3 q (Or.inr hq)
  ·obtain ⟨p0, ps'⟩ := pv_ok hA hN hS hK hg hu'
   have e : vLoop (PVg A ns G) (p :: ps) M = vLoop (PVg A ns G) ps (M ++ [(p, (PVg A ns G M p).1)]) := by simp only [vLoop]; rw [if_neg hk, if_pos p0]
   rw [e]
   have hno : getM M p = none := by cases h : getM M p with
    | none => rfl
    | some x => rw [h] at hk; exact absurd rfl hk
   have hK' : Kok ns (M ++ [(p, (PVg A ns G M p).1)]) := by
    refine ⟨fun x hx => ?_, fun q v hv => ?_⟩
    ·rcases List.mem_append.1 hx with hx | hx
     ·exact hK.1 x hx
     ·rw [List.mem_singleton.1 hx]; exact pvg_bk hA hN hG hK.1 p0
    ·rw [getM_app] at hv
     cases hq : getM M q with
     | some x =>
      rw [hq] at hv
      have : x = v := by simpa using hv
      subst this
      exact hK.2 q x hq
     | none =>
      rw [hq] at hv
      by_cases hpq : p = q
      ·subst hpq
       have : (PVg A ns G M p).1 = v := by simpa using hv
       rw [← this, ps', sAt_is hg.1]
      ·simp [hpq] at hv
   obtain ⟨c1, c2, c3⟩ := vloop_ok hA hN hS hG ps _ hK' (shift _ (fun q h => getM_mono h) (getM_last _ _ _))
   refine ⟨c1, c2, fun q hq => ?_⟩
   rcases hq with hq | hq
   ·exact c3 q (Or.inl (getM_mono hq))
   ·rcases List.mem_cons.1 hq with rfl | hq
    ·exact c3 _ (Or.inl (getM_last _ _ _))
    ·exact c3 q (Or.inr hq)
end Go.Proofs.Ytedldoobmmhloaa
