import Derived.Test.YtedldoobmmhloaaMg48
import Derived.Test.YtedldoobmmhloaaMg17
import Derived.Test.YtedldoobmmhloaaMg46
import Derived.Test.YtedldoobmmhloaaMg19
namespace Go.Proofs.Ytedldoobmmhloaa
open Go.RowKit
set_option linter.unusedSimpArgs false
set_option linter.unusedVariables false
structure Gd (ns : List Nd) : Prop where
 nok : Nok ns
 sok : Sok ns
 upo : Upo ns
theorem gd_nil : Gd [] := ⟨⟨(fun _ h => nomatch h), (fun _ h => nomatch h), (fun _ h => nomatch h)⟩, ⟨(fun _ h => nomatch h), (fun _ h => nomatch h)⟩, (fun _ h => nomatch h)⟩
theorem prt_used {N : Nat} {n : Nd} (hp : prt N n = true) : ∀ q ∈ used n, hasB N q = true := by
 have h3 := ari_le n.op
 rw [prt_eq rfl] at hp
 simp only [Bool.and_eq_true, decide_eq_true_eq] at hp
 obtain ⟨⟨⟨⟨⟨h0, ha⟩, hb⟩, hc⟩, -⟩, -⟩ := hp
 unfold used
 have hx : ari n.op = 0 ∨ ari n.op = 1 ∨ ari n.op = 2 ∨ ari n.op = 3 := by omega
 rcases hx with e | e | e | e
 ·rw [e]; intro q hq; cases hq
 ·rw [e] at ha ⊢
  have ha' : hasB N n.a = true := by rw [opB, if_pos (by decide)] at ha; exact ha
  intro q hq
  have hq' : q ∈ [n.a] := hq
  rw [List.mem_singleton.1 hq']; exact ha'
 ·rw [e] at ha hb ⊢
  have ha' : hasB N n.a = true := by rw [opB, if_pos (by decide)] at ha; exact ha
  have hb' : hasB N n.b = true := by rw [opB, if_pos (by decide)] at hb; exact hb
  intro q hq
  have hq' : q ∈ [n.a, n.b] := hq
  rcases List.mem_cons.1 hq' with rfl | hq'
  ·exact ha'
  ·rw [List.mem_singleton.1 hq']; exact hb'
 ·rw [e] at ha hb hc ⊢
  have ha' : hasB N n.a = true := by rw [opB, if_pos (by decide)] at ha; exact ha
  have hb' : hasB N n.b = true := by rw [opB, if_pos (by decide)] at hb; exact hb
  have hc' : hasB N n.c = true := by rw [opB, if_pos (by decide)] at hc; exact hc
  intro q hq
  have hq' : q ∈ [n.a, n.b, n.c] := hq
  rcases List.mem_cons.1 hq' with rfl | hq'
  ·exact ha'
  ·rcases List.mem_cons.1 hq' with rfl | hq'
   ·exact hb'
   ·rw [List.mem_singleton.1 hq']; exact hc'
theorem gd_snoc {ns : List Nd} {n : Nd} {s : Int} (hv : Inv ns) (hg : Gd ns) (ho : Ok n) (hs : srtOf ns n = (s, 0)) : Gd (ns ++ [n.wi s]) := by
 have hp : prt ns.length n = true := by
  cases e : prt ns.length n
  ·unfold srtOf at hs; rw [if_pos e] at hs; cases hs
  ·rfl
 have hs' := hs
 unfold srtOf at hs'
 rw [if_neg (by rw [hp]; decide)] at hs'
 have hu := prt_used hp
 have hun : used (n.wi s) = used n := rfl
 refine ⟨⟨?_, ?_, ?_⟩, ⟨?_, ?_⟩, ?_⟩
 ·intro m hm
  rcases List.mem_append.1 hm with hm | hm
  ·exact hg.nok.vals m hm
  ·rw [List.mem_singleton.1 hm]; exact ⟨ho.fi.l0, ho.fi.l1, ho.fi.h0, ho.fi.h1⟩
 ·intro m hm
  rcases List.mem_append.1 hm with hm | hm
  ·exact hg.nok.ps m hm
  ·rw [List.mem_singleton.1 hm]
   have := ho.p
   unfold w64 at this
   show n.p < _
   omega
 ·intro m hm
  rcases List.mem_append.1 hm with hm | hm
  ·exact hg.nok.ars m hm
  ·rw [List.mem_singleton.1 hm]
   show n.op = 1 ∨ n.op = 2 ∨ (1 ≤ ari n.op ∧ ari n.op ≤ 3)
   by_cases h1 : n.op = 1
   ·exact Or.inl h1
   ·by_cases h2 : n.op = 2
    ·exact Or.inr (Or.inl h2)
    ·rw [if_neg h1, if_neg h2] at hs'
     have h3 := ari_le n.op
     refine Or.inr (Or.inr ⟨?_, by omega⟩)
     apply Classical.byContradiction
     intro hc
     unfold srtF at hs'
     rw [if_pos (by omega)] at hs'
     cases hs'
 ·intro m hm h1
  rcases List.mem_append.1 hm with hm | hm
  ·exact hg.sok.cst m hm h1
  ·rw [List.mem_singleton.1 hm] at h1 ⊢
   have h1' : n.op = 1 := h1
   rw [if_pos h1'] at hs'
   split at hs'
   ·rename_i hc
    simp only [Bool.and_eq_true, decide_eq_true_eq] at hc
    have e : n.s = s := (Prod.mk.inj hs').1
    show sof ⟨n.w, n.lo, n.hi⟩ = s
    unfold sof
    rw [if_pos hc.1.1.1, ← e]; exact hc.1.1.2
   ·cases hs'
 ·intro m hm h1 h2
  rcases List.mem_append.1 hm with hm | hm
  ·have e : (used m).map (sAt (ns ++ [n.wi s])) = (used m).map (sAt ns) := by
    refine List.map_congr_left fun q hq => sAt_more ?_
    obtain ⟨i, hi, rfl⟩ := List.getElem_of_mem hm
    have hk := hv.kids i _ (List.getElem?_eq_getElem hi)
    have hq1 := hg.upo _ (List.getElem_mem hi) q hq
    have hkid := used_kid hq
    simp [hasB]
    omega
   rw [e]; exact hg.sok.ops m hm h1 h2
  ·rw [List.mem_singleton.1 hm] at h1 h2 ⊢
   have h1' : ¬ n.op = 1 := h1
   have h2' : ¬ n.op = 2 := h2
   rw [if_neg h1', if_neg h2'] at hs'
   show srtF n.op n.p n.q ((used n).map (sAt (ns ++ [n.wi s]))) = (s, 0)
   have e : (used n).map (sAt (ns ++ [n.wi s])) = oss ns n := oss_more hp
   rw [e]; exact hs'
 ·intro m hm q hq
  rcases List.mem_append.1 hm with hm | hm
  ·exact hg.upo m hm q hq
  ·rw [List.mem_singleton.1 hm, hun] at hq
   have := hu q hq
   simp [hasB] at this
   exact this.1
theorem gd_mkd {mo : Nat} {ns ns' : List Nd} {n : Nd} {id er : Int} (hv : Inv ns) (hg : Gd ns) (ho : Ok n) (hM : Mkd mo ns n id er ns') : Gd ns' := by
 cases hM with
 | err _ _ => exact hg
 | old _ _ => exact hg
 | full _ _ _ => exact hg
 | new hs _ _ => exact gd_snoc hv hg ho hs
def nval (A : Int → Int → Int → List Bt → Bt × Int) (G : List (Int × Bt)) (f : Int → Bt) (p : Int) (n : Nd) : Bt := if n.op = 1 then ⟨n.w, n.lo, n.hi⟩ else if n.op = 2 then kn G p else (A n.op n.p n.q ((used n).map f)).1
def Cst (A : Int → Int → Int → List Bt → Bt × Int) (ns : List Nd) (G M : List (Int × Bt)) : Prop := ∀ p v, getM M p = some v → 1 ≤ p ∧ ∃ n, ns[(p - 1).toNat]? = some n ∧ v = nval A G (kn M) p n ∧ ∀ q ∈ used n, (getM M q).isSome = true
theorem kn_app {M : List (Int × Bt)} {p q : Int} {v : Bt} (h : (getM M q).isSome = true) : kn (M ++ [(p, v)]) q = kn M q := by
 obtain ⟨x, hx⟩ := Option.isSome_iff_exists.1 h
 unfold kn
 rw [getM_app, hx]; rfl
theorem nval_app {A : Int → Int → Int → List Bt → Bt × Int} {G M : List (Int × Bt)} {p q : Int} {v : Bt} {n : Nd} (h : ∀ q ∈ used n, (getM M q).isSome = true) : nval A G (kn (M ++ [(p, v)])) q n = nval A G (kn M) q n := by
 unfold nval
 rw [List.map_congr_left (fun x hx => kn_app (h x hx))]
theorem pv_nval {A : Int → Int → Int → List Bt → Bt × Int} {ns : List Nd} {G M : List (Int × Bt)} {p : Int} {n : Nd} (hg : Good ns G p n) : (PVg A ns G M p).1 = nval A G (kn M) p n := by
 obtain ⟨hn, -, hv⟩ := hg
 unfold PVg nval
 rw [hn]
 simp only
 by_cases h1 : n.op = 1
 ·rw [if_pos h1, if_pos h1]
 ·rw [if_neg h1, if_neg h1]
  by_cases h2 : n.op = 2
  ·rw [if_pos h2, if_pos h2, hv h2]; rfl
  ·rw [if_neg h2, if_neg h2]
   have e : ([n.a, n.b, n.c].map (kn M)).take (ari n.op).toNat = (used n).map (kn M) := by unfold used; rw [List.map_take]
   rw [e]
theorem cst_snoc {A : Int → Int → Int → List Bt → Bt × Int} {ns : List Nd} {G M : List (Int × Bt)} (h : Cst A ns G M) {p : Int} {n : Nd} (hg : Good ns G p n) (hu : ∀ q ∈ used n, (getM M q).isSome = true) : Cst A ns G (M ++ [(p, (PVg A ns G M p).1)]) := by
 intro q v hv
 rw [getM_app] at hv
 cases hq : getM M q with
 | some x =>
  rw [hq] at hv
  obtain rfl : x = v := by simpa using hv
  obtain ⟨h1, m, hm, e, hum⟩ := h q x hq
  exact ⟨h1, m, hm, by rw [nval_app hum]; exact e, fun y hy => getM_mono (hum y hy)⟩
 | none =>
  rw [hq] at hv
  by_cases hpq : p = q
  ·subst hpq
   have e : (PVg A ns G M p).1 = v := by simpa using hv
   exact ⟨hg.2.1, n, hg.1, by rw [nval_app hu, ← e]; exact pv_nval hg, fun y hy => getM_mono (hu y hy)⟩
  ·simp [hpq] at hv
theorem vloop_cst {A : Int → Int → Int → List Bt → Bt × Int} (hA : ApF A) {ns : List Nd} (hN : Nok ns) (hS : Sok ns) {G : List (Int × Bt)} (hG : ∀ p ∈ G, Bk p.2) :
  ∀ (L : List Int) (M : List (Int × Bt)), Kok ns M → Cst A ns G M → (∀ (j : Nat) (p : Int), L[j]? = some p → ∃ n, Good ns G p n ∧ ∀ q ∈ used n, (getM M q).isSome = true ∨ ∃ i, i < j ∧ L[i]? = some q) → Cst A ns G (vLoop (PVg A ns G) L M).1
 | [], M, _, hC, _ => hC
 | p :: ps, M, hK, hC, hL => by
  obtain ⟨n, hg, hu⟩ := hL 0 p rfl
  have hu' : ∀ q ∈ used n, (getM M q).isSome = true := fun q hq => by
   rcases hu q hq with h | ⟨i, hi, -⟩
   ·exact h
   ·omega
  have shift : ∀ M' : List (Int × Bt), (∀ q, (getM M q).isSome = true → (getM M' q).isSome = true) → (getM M' p).isSome = true → ∀ (j : Nat) (x : Int), ps[j]? = some x → ∃ n, Good ns G x n ∧ ∀ q ∈ used n, (getM M' q).isSome = true ∨ ∃ i, i < j ∧ ps[i]? = some q := by
   intro M' hmono hp j x hx
   obtain ⟨m, hm, hum⟩ := hL (j + 1) x hx
   refine ⟨m, hm, fun q hq => ?_⟩
   rcases hum q hq with h | ⟨i, hi, hiq⟩
   ·exact Or.inl (hmono q h)
   ·cases i with
    | zero =>
     have : p = q := Option.some.inj hiq
     subst this
     exact Or.inl hp
    | succ i => exact Or.inr ⟨i, by omega, hiq⟩
  by_cases hk : (getM M p).isSome = true
  ·have e : vLoop (PVg A ns G) (p :: ps) M = vLoop (PVg A ns G) ps M := by simp only [vLoop]; rw [if_pos hk]
   rw [e]
   exact vloop_cst hA hN hS hG ps M hK hC (shift M (fun _ h => h) hk)
  ·obtain ⟨p0, ps'⟩ := pv_ok hA hN hS hK hg hu'
   have e : vLoop (PVg A ns G) (p :: ps) M = vLoop (PVg A ns G) ps (M ++ [(p, (PVg A ns G M p).1)]) := by simp only [vLoop]; rw [if_neg hk, if_pos p0]
   rw [e]
   have hK' : Kok ns (M ++ [(p, (PVg A ns G M p).1)]) := by
    have h1 := (vloop_ok hA hN hS hG [p] M hK (fun j x hx => by
     cases j with
     | zero =>
      obtain rfl : p = x := by simpa using hx
      exact ⟨n, hg, fun q hq => Or.inl (hu' q hq)⟩
     | succ j => simp at hx)).2.1
    have e2 : vLoop (PVg A ns G) [p] M = (M ++ [(p, (PVg A ns G M p).1)], 0) := by simp only [vLoop]; rw [if_neg hk, if_pos p0]
    rw [e2] at h1; exact h1
   exact vloop_cst hA hN hS hG ps _ hK' (cst_snoc hC hg hu') (shift _ (fun _ h => getM_mono h) (getM_last _ _ _))
theorem cst_uniq {A : Int → Int → Int → List Bt → Bt × Int} {ns r : List Nd} {G M M' : List (Int × Bt)} (hv : Inv ns) (h : Cst A ns G M) (h' : Cst A (ns ++ r) G M') : ∀ (k : Nat) (p : Int) (v v' : Bt), p.toNat ≤ k → getM M p = some v → getM M' p = some v' → v = v'
 | k, p, v, v', hk, e, e' => by
  obtain ⟨h1, n, hn, hvv, hu⟩ := h p v e
  obtain ⟨-, n', hn', hvv', hu'⟩ := h' p v' e'
  have hl : (p - 1).toNat < ns.length := (List.getElem?_eq_some_iff.1 hn).1
  obtain rfl : n = n' := by
   rw [List.getElem?_append_left hl, hn] at hn'
   exact Option.some.inj hn'
  rw [hvv, hvv']
  have hk2 := hv.kids _ n hn
  have hm : (used n).map (kn M) = (used n).map (kn M') := by
   refine List.map_congr_left fun q hq => ?_
   obtain ⟨x, hx⟩ := Option.isSome_iff_exists.1 (hu q hq)
   obtain ⟨y, hy⟩ := Option.isSome_iff_exists.1 (hu' q hq)
   have hkid := used_kid hq
   have hq1 := (h q x hx).1
   match k with
   | 0 => omega
   | k + 1 =>
    have := cst_uniq hv h h' k q x y (by omega) hx hy
    unfold kn
    rw [hx, hy, this]
  unfold nval
  rw [hm]
def Full (ns : List Nd) (G : List (Int × Bt)) : Prop := ∀ (i : Nat) (n : Nd), ns[i]? = some n → n.op = 2 → fits G ((i : Int) + 1) n.s = true
theorem has_nat {N : Nat} {i : Int} (h : hasB N i = true) : ∃ k : Nat, i = (k : Int) ∧ 1 ≤ k ∧ k ≤ N := by
 have h' : 1 ≤ i ∧ i ≤ (N : Int) := by simpa [hasB] using h
 exact ⟨i.toNat, by omega, by omega, by omega⟩
theorem kok_nil (ns : List Nd) : Kok ns [] := ⟨(fun _ h => nomatch h), fun q v h => by simp [getM] at h⟩
theorem cst_nil (A : Int → Int → Int → List Bt → Bt × Int) (ns : List Nd) (G : List (Int × Bt)) : Cst A ns G [] := fun p v h => by simp [getM] at h
theorem vG_step {A : Int → Int → Int → List Bt → Bt × Int} (hA : ApF A) {ns : List Nd} (hv : Inv ns) (hd : Gd ns) {G M : List (Int × Bt)} (hG : ∀ p ∈ G, Bk p.2) (hF : Full ns G) (hK : Kok ns M) (hC : Cst A ns G M) {id : Int} (h : hasB ns.length id = true) :
  (vG A ns G M id).2.2 = 0 ∧ Kok ns (vG A ns G M id).1 ∧ Cst A ns G (vG A ns G M id).1 ∧ getM (vG A ns G M id).1 id = some (vG A ns G M id).2.1 ∧ sof (vG A ns G M id).2.1 = sAt ns id := by
 obtain ⟨k, rfl, h1, h2⟩ := has_nat h
 obtain ⟨c1, c2, c3⟩ := vG_ok hA hv hd.nok hd.sok hd.upo hG hK h1 h2 (fun i n _ hi h2 => hF i n hi h2)
 refine ⟨c1, c2, ?_, ?_, c3⟩
 ·unfold vG
  cases hy : getM M (k : Int) with
  | some y => exact hC
  | none =>
   simp only
   split
   ·exact hC
   ·exact vloop_cst hA hd.nok hd.sok hG _ M hK hC (cone_shut hv hd.upo h2 (fun i n _ hi h2 => hF i n hi h2))
 ·unfold vG
  cases hy : getM M (k : Int) with
  | some y => exact hy
  | none =>
   have hne : ¬ coneL ns (k : Int) = [] := by
    intro e
    have : ((k : Nat) : Int) ∈ coneL ns (k : Int) := (mem_coneL hv h1 h2).2 .here
    rw [e] at this; cases this
   obtain ⟨d1, -, d3⟩ := vloop_ok hA hd.nok hd.sok hG (coneL ns (k : Int)) M hK (cone_shut hv hd.upo h2 (fun i n _ hi h2 => hF i n hi h2))
   obtain ⟨x, hx⟩ := Option.isSome_iff_exists.1 (d3 _ (Or.inr ((mem_coneL hv h1 h2).2 .here)))
   simp only [hne, if_false, d1, if_true]
   unfold kn
   rw [hx]; rfl
def val (A : Int → Int → Int → List Bt → Bt × Int) (ns : List Nd) (G : List (Int × Bt)) (id : Int) : Bt := (vG A ns G [] id).2.1
theorem vG_val {A : Int → Int → Int → List Bt → Bt × Int} (hA : ApF A) {ns : List Nd} (hv : Inv ns) (hd : Gd ns) {G M : List (Int × Bt)} (hG : ∀ p ∈ G, Bk p.2) (hF : Full ns G) (hK : Kok ns M) (hC : Cst A ns G M) {id : Int} (h : hasB ns.length id = true) :
  (vG A ns G M id).2.1 = val A ns G id := by
 obtain ⟨-, -, c1, c2, -⟩ := vG_step hA hv hd hG hF hK hC h
 obtain ⟨-, -, d1, d2, -⟩ := vG_step hA hv hd hG hF (kok_nil ns) (cst_nil A ns G) h
 have d1' : Cst A (ns ++ []) G (vG A ns G [] id).1 := by rw [List.append_nil]; exact d1
 exact cst_uniq hv c1 d1' id.toNat id _ _ (Nat.le_refl _) c2 d2
theorem vG_no {A : Int → Int → Int → List Bt → Bt × Int} {ns : List Nd} {G M : List (Int × Bt)} (hC : Cst A ns G M) {id : Int} (h : hasB ns.length id = false) : (vG A ns G M id).2.2 = 40 := by
 have hn : getM M id = none := by
  cases e : getM M id with
  | none => rfl
  | some v =>
   obtain ⟨h1, n, hn, -⟩ := hC id v e
   have := (List.getElem?_eq_some_iff.1 hn).1
   have : hasB ns.length id = true := by simp [hasB]; omega
   rw [this] at h; cases h
 unfold vG
 rw [hn]
 have : coneL ns id = [] := by unfold coneL; rw [if_neg (by rw [h]; decide)]
 simp only [this, if_true]
theorem aloop_yes {A : Int → Int → Int → List Bt → Bt × Int} (hA : ApF A) {ns : List Nd} (hv : Inv ns) (hd : Gd ns) {G : List (Int × Bt)} (hG : ∀ p ∈ G, Bk p.2) (hF : Full ns G) :
  ∀ (ids : List Int) (M : List (Int × Bt)), Kok ns M → Cst A ns G M → (∀ p ∈ ids, hasB ns.length p = true) → aLoop (vG A ns G) ids M = (ids.map (val A ns G), 0)
 | [], _, _, _, _ => rfl
 | p :: ps, M, hK, hC, h => by
  obtain ⟨c0, c1, c2, -, -⟩ := vG_step hA hv hd hG hF hK hC (h p (by simp))
  simp only [aLoop]
  rw [if_pos c0, aloop_yes hA hv hd hG hF ps _ c1 c2 (fun q hq => h q (List.mem_cons_of_mem _ hq)), vG_val hA hv hd hG hF hK hC (h p (by simp))]
  rfl
theorem aloop_no {A : Int → Int → Int → List Bt → Bt × Int} (hA : ApF A) {ns : List Nd} (hv : Inv ns) (hd : Gd ns) {G : List (Int × Bt)} (hG : ∀ p ∈ G, Bk p.2) (hF : Full ns G) :
  ∀ (ids : List Int) (M : List (Int × Bt)), Kok ns M → Cst A ns G M → (∃ p ∈ ids, hasB ns.length p = false) → (aLoop (vG A ns G) ids M).2 ≠ 0
 | [], _, _, _, h => by obtain ⟨p, hp, -⟩ := h; cases hp
 | p :: ps, M, hK, hC, h => by
  cases hp : hasB ns.length p with
  | false =>
   have := vG_no (A := A) hC hp
   simp only [aLoop]
   rw [if_neg (by rw [this]; decide)]
   rw [this]; decide
  | true =>
   obtain ⟨c0, c1, c2, -, -⟩ := vG_step hA hv hd hG hF hK hC hp
   simp only [aLoop]
   rw [if_pos c0]
   refine aloop_no hA hv hd hG hF ps _ c1 c2 ?_
   obtain ⟨q, hq, hh⟩ := h
   rcases List.mem_cons.1 hq with rfl | hq
   ·rw [hp] at hh; cases hh
   ·exact ⟨q, hq, hh⟩
def cmpF (ns : List Nd) (G : List (Int × Bt)) : List Nv := (vsF ns).map (cmpV ns G)
theorem full_cmp {ns : List Nd} (hv : Inv ns) (G : List (Int × Bt)) : Full ns (fvF ns (cmpF ns G)) := fun i n hi h2 => comp_fits hv hi h2
theorem cmpV_fit {ns : List Nd} {G : List (Int × Bt)} {p : Int} (h : fits G p (sAt ns p) = true) : cmpV ns G p = ⟨((ns[(p - 1).toNat]?).map Nd.nm).getD ⟨#[]⟩, (getM G p).getD zBt⟩ := by
 unfold cmpV; rw [if_pos h]
theorem cmp_again {ns : List Nd} (hv : Inv ns) (G : List (Int × Bt)) : cmpF ns (fvF ns (cmpF ns G)) = cmpF ns G := by
 unfold cmpF
 refine List.map_congr_left fun p hp => ?_
 obtain ⟨i, n, rfl, hi, h2⟩ := vs_var hp
 have h3 := comp_fits hv (G := G) hi h2
 have h4 := comp_get hv (G := G) hi h2
 have hs : sAt ns ((i : Int) + 1) = n.s := by unfold sAt; rw [show ((i : Int) + 1 - 1).toNat = i by omega, hi]; rfl
 rw [cmpV_fit (by rw [hs]; exact h3), h4]
 rfl
def hldF (A : Int → Int → Int → List Bt → Bt × Int) (ns : List Nd) (G : List (Int × Bt)) (ids : List Int) : Bool := ids.all fun p => hasB ns.length p && tru (val A ns G p)
theorem val_bool {A : Int → Int → Int → List Bt → Bt × Int} (hA : ApF A) {ns : List Nd} (hv : Inv ns) (hd : Gd ns) {G : List (Int × Bt)} (hG : ∀ p ∈ G, Bk p.2) (hF : Full ns G) {i : Nat} {n : Nd} (hi : ns[i]? = some n) :
  tru (val A ns G ((i : Int) + 1)) = (decide (n.s = 0) && decide ((val A ns G ((i : Int) + 1)).lo = 1)) := by
 have hl := (List.getElem?_eq_some_iff.1 hi).1
 have hh : hasB ns.length ((i : Int) + 1) = true := by simp [hasB]; omega
 obtain ⟨-, c1, -, c3, c4⟩ := vG_step hA hv hd hG hF (kok_nil ns) (cst_nil A ns G) hh
 have hs : sAt ns ((i : Int) + 1) = n.s := by unfold sAt; rw [show ((i : Int) + 1 - 1).toNat = i by omega, hi]; rfl
 rw [hs] at c4
 have h0 := hv.sorts n (List.mem_of_getElem? hi)
 have c5 : sof (val A ns G ((i : Int) + 1)) = n.s := c4
 obtain ⟨v, hvv⟩ : ∃ v, v = val A ns G ((i : Int) + 1) := ⟨_, rfl⟩
 rw [← hvv] at c5 ⊢
 unfold sof at c5
 split at c5
 ·rename_i hr
  by_cases hz : n.s = 0
  ·rw [hz] at c5
   unfold rgt at hr
   rw [c5] at hr
   simp only [if_true, Bool.and_eq_true, Bool.or_eq_true, decide_eq_true_eq] at hr
   unfold tru
   rw [hz, c5]
   by_cases hl : v.lo = 1
   ·have : v.hi = 0 := by
     rcases hr.2 with h | h <;> exact h.2
    simp [hl, this]
   ·simp [hl]
  ·unfold tru
   have : ¬ v.w = 0 := by rw [c5]; exact hz
   simp [hz, this]
 ·have : 0 ≤ n.s := h0.1
  omega
end Go.Proofs.Ytedldoobmmhloaa
