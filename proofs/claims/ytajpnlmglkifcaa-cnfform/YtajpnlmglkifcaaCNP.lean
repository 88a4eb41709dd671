/- Pure facts (clauses): what holds of a run's state; Root keeps it. -/
import Derived.Test.YtajpnlmglkifcaaCN12
import Derived.Test.YtajpnlmglkifcaaAG15
namespace Go.Proofs.Ytajpnlmglkifcaa
open Go.RowKit
set_option linter.unusedSimpArgs false
set_option linter.unusedVariables false

theorem asg_out {n : Int} : ∀ (l : List Int) (V : Int → Option Int) (vars : Int), n ∉ l → asg V vars l n = V n
  | [], _, _, _ => rfl
  | m :: r, V, vars, h => by
    show asg (upf V m (vars + 1)) (vars + 1) r n = V n
    rw [asg_out r _ _ (fun e => h (List.mem_cons_of_mem _ e))]
    unfold upf
    rw [if_neg (fun e => h (by rw [e]; exact List.mem_cons_self))]
theorem asg_in {n : Int} : ∀ (l : List Int) (V : Int → Option Int) (vars : Int), l.Nodup → n ∈ l → ∃ v, asg V vars l n = some v ∧ vars < v ∧ v ≤ vars + l.length
  | [], _, _, _, h => by cases h
  | m :: r, V, vars, hd, h => by
    obtain ⟨h1, h2⟩ := List.nodup_cons.1 hd
    show ∃ v, asg (upf V m (vars + 1)) (vars + 1) r n = some v ∧ vars < v ∧ v ≤ vars + ((r.length + 1 : Nat) : Int)
    rcases List.mem_cons.1 h with rfl | h
    · refine ⟨vars + 1, ?_, by omega, by omega⟩
      rw [asg_out r _ _ h1]
      unfold upf
      rw [if_pos rfl]
    · obtain ⟨v, e1, e2, e3⟩ := asg_in r (upf V m (vars + 1)) (vars + 1) h2 h
      exact ⟨v, e1, by omega, by omega⟩
theorem asg_inj {n m v : Int} : ∀ (l : List Int) (V : Int → Option Int) (vars : Int), l.Nodup → n ∈ l → m ∈ l → asg V vars l n = some v → asg V vars l m = some v → n = m
  | [], _, _, _, h, _, _, _ => by cases h
  | k :: r, V, vars, hd, h, h', e, e' => by
    obtain ⟨h1, h2⟩ := List.nodup_cons.1 hd
    have hk : asg V vars (k :: r) k = some (vars + 1) := by
      show asg (upf V k (vars + 1)) (vars + 1) r k = some (vars + 1)
      rw [asg_out r _ _ h1]
      unfold upf
      rw [if_pos rfl]
    have hin : ∀ q, q ∈ r → asg V vars (k :: r) q = some v → v ≠ vars + 1 := fun q hq hv hc => by
      obtain ⟨v', f1, f2, -⟩ := asg_in r (upf V k (vars + 1)) (vars + 1) h2 hq
      have : some v' = some v := f1.symm.trans hv
      injection this with this
      omega
    rcases List.mem_cons.1 h with rfl | hn
    · rcases List.mem_cons.1 h' with rfl | hm
      · rfl
      · rw [hk] at e
        injection e with e
        exact absurd e.symm (hin m hm e')
    · rcases List.mem_cons.1 h' with rfl | hm
      · rw [hk] at e'
        injection e' with e'
        exact absurd e'.symm (hin n hn e)
      · exact asg_inj r (upf V k (vars + 1)) (vars + 1) h2 hn hm e e'
/-- What holds of a run: variables begin at first, f were told by Fresh. -/
structure Pz (first : Int) (f : Nat) (s : Rz) : Prop where
  inv : Inv s.ks
  nd : s.T.Nodup
  vt : ∀ x ∈ s.T, x / 2 < s.ks.length ∧ x ≠ 0
  cl : ∀ x ∈ s.T, ∀ y ∈ kidsL s.ks x, y ∈ s.T
  nm : ∃ N : List Int, N.Nodup ∧ (∀ n, (s.V n).isSome = true ↔ n ∈ N) ∧ (∀ n ∈ N, 0 ≤ n ∧ n < (s.ks.length : Int)) ∧ s.vars = first - 1 + N.length + f
  rg : ∀ n v, s.V n = some v → first ≤ v ∧ v ≤ s.vars
  ij : ∀ n m v, s.V n = some v → s.V m = some v → n = m
  dm : ∀ x ∈ s.T, (s.V ((x / 2 : Nat) : Int)).isSome = true
  cc : s.C = clsL s.ks s.V s.T
  rt : s.Rs = s.Lt.map (lit s.V)
  lt : ∀ l ∈ s.Lt, max l 1 ∈ s.T
def rtS (s : Rz) (L : List Nat) (l : Nat) : Rz :=
  ⟨s.ks, s.vars + (Lib.compact (nats (nmL s.V L))).length, asg s.V s.vars (Lib.compact (nats (nmL s.V L))), s.T ++ L, s.C ++ clsL s.ks (asg s.V s.vars (Lib.compact (nats (nmL s.V L)))) L, s.Lt ++ [l], s.Rs ++ [lit (asg s.V s.vars (Lib.compact (nats (nmL s.V L)))) l]⟩
theorem lit_eq {V V' : Int → Option Int} {l : Nat} (h : V' ((l / 2 : Nat) : Int) = V ((l / 2 : Nat) : Int)) : lit V' l = lit V l := by
  unfold lit; rw [h]
theorem cls_eq {ks ks' : List Kd} {V V' : Int → Option Int} {x : Nat} (hk : ks'[x / 2]? = ks[x / 2]?) (h0 : V' ((x / 2 : Nat) : Int) = V ((x / 2 : Nat) : Int)) (h : ∀ y ∈ kidsL ks x, V' ((y / 2 : Nat) : Int) = V ((y / 2 : Nat) : Int)) : cls ks' V' x = cls ks V x := by
  unfold cls
  rw [hk, lit_eq h0]
  unfold kidsL at h
  split
  · rfl
  · cases hq : ks[x / 2]? with
    | none => rfl
    | some k =>
      rw [hq] at h
      simp only at h ⊢
      by_cases hi : isK k = true
      · rw [if_pos hi] at h
        have h1 := h (xr k.1 (x % 2)) (by simp)
        have h2 := h (xr k.2 (x % 2)) (by simp)
        rw [xr_half] at h1 h2
        rw [lit_eq h1, lit_eq h2]
      · rw [if_neg hi, if_neg hi]
theorem flat_eq {f g : Nat → List (List Int)} : ∀ {T : List Nat}, (∀ x ∈ T, f x = g x) → T.flatMap f = T.flatMap g
  | [], _ => rfl
  | x :: r, h => by
    rw [List.flatMap_cons, List.flatMap_cons, h x List.mem_cons_self, flat_eq (T := r) (fun y hy => h y (List.mem_cons_of_mem _ hy))]
theorem Pz.len {first : Int} {f : Nat} {s : Rz} (h : Pz first f s) : first - 1 + f ≤ s.vars ∧ s.vars ≤ first - 1 + s.ks.length + f := by
  obtain ⟨N, n1, n2, n3, n4⟩ := h.nm
  have hl := nodup_len s.ks.length (N.map Int.toNat) (by
    rw [List.Nodup, List.pairwise_map]
    exact n1.imp_of_mem fun {a b} ha hb hab => by
      have := n3 a ha
      have := n3 b hb
      omega) (fun x hx => by
    obtain ⟨y, hy, rfl⟩ := List.mem_map.1 hx
    have := n3 y hy
    omega)
  rw [List.length_map] at hl
  omega
theorem Pz.rng {first : Int} {f : Nat} {s : Rz} (h : Pz first f s) (h1 : 1 ≤ first) (n : Int) : 0 ≤ (s.V n).getD 0 ∧ ((s.V n).getD 0 ≤ s.vars) := by
  have := h.len
  cases e : s.V n with
  | none => simp; omega
  | some v => have := h.rg n v e; simp; omega
theorem Pz.root {first : Int} {f l : Nat} {s : Rz} {L : List Nat} (h : Pz first f s) (h1 : 1 ≤ first) (hU : UO s.ks s.T (max l 1) L) : Pz first f (rtS s L l) ∧ lit (rtS s L l).V l ≠ 0 := by
  have hN := compact_list (nm_up (V := s.V) hU.up)
  obtain ⟨NL, hNL⟩ : ∃ y, y = Lib.compact (nats (nmL s.V L)) := ⟨_, rfl⟩
  unfold rtS
  rw [← hNL] at hN ⊢
  have hm : ∀ n, n ∈ NL ↔ ∃ y ∈ L, (s.V ((y / 2 : Nat) : Int)).isSome = false ∧ n = ((y / 2 : Nat) : Int) := fun n => by
    rw [hN.1 n]
    unfold nats nmL
    simp only [List.mem_map, List.mem_filter]
    constructor
    · rintro ⟨a, ⟨b, ⟨hb, hb2⟩, rfl⟩, rfl⟩
      exact ⟨b, hb, by simpa using hb2, rfl⟩
    · rintro ⟨b, hb, hb2, rfl⟩
      exact ⟨b / 2, ⟨b, ⟨hb, by simpa using hb2⟩, rfl⟩, rfl⟩
  have hnd : NL.Nodup := hN.2.imp (fun {a b} q => by omega)
  have hfree : ∀ n, n ∈ NL → s.V n = none := fun n hn => by
    obtain ⟨y, -, hy, rfl⟩ := (hm n).1 hn
    cases e : s.V ((y / 2 : Nat) : Int) with
    | none => rfl
    | some v => rw [e] at hy; cases hy
  have hold : ∀ n, (s.V n).isSome = true → asg s.V s.vars NL n = s.V n := fun n hn => asg_out NL _ _ (fun e => by rw [hfree n e] at hn; cases hn)
  have hL : ∀ x ∈ L, (asg s.V s.vars NL ((x / 2 : Nat) : Int)).isSome = true := fun x hx => by
    cases e : (s.V ((x / 2 : Nat) : Int)).isSome with
    | true => rw [hold _ e]; exact e
    | false =>
      obtain ⟨v, hv, -⟩ := asg_in NL s.V s.vars hnd ((hm _).2 ⟨x, hx, e, rfl⟩)
      rw [hv]; rfl
  have hTL : ∀ x, x ∈ s.T ++ L → (asg s.V s.vars NL ((x / 2 : Nat) : Int)).isSome = true := fun x hx => by
    rcases List.mem_append.1 hx with hx | hx
    · rw [hold _ (h.dm x hx)]; exact h.dm x hx
    · exact hL x hx
  have hrg : ∀ n v, asg s.V s.vars NL n = some v → (s.V n = some v ∧ n ∉ NL) ∨ (n ∈ NL ∧ s.vars < v ∧ v ≤ s.vars + NL.length) := fun n v e => by
    by_cases hn : n ∈ NL
    · obtain ⟨v', e1, e2, e3⟩ := asg_in NL s.V s.vars hnd hn
      rw [e1] at e
      injection e with e
      exact Or.inr ⟨hn, by omega, by omega⟩
    · rw [asg_out NL _ _ hn] at e
      exact Or.inl ⟨e, hn⟩
  have hml : max l 1 ∈ s.T ++ L := List.mem_append.2 hU.st
  have hhalf : max l 1 / 2 = l / 2 := by omega
  have hlen := h.len
  refine ⟨⟨h.inv, ?_, ?_, ?_, ?_, ?_, ?_, hTL, ?_, ?_, ?_⟩, ?_⟩
  · rw [List.nodup_append]
    exact ⟨h.nd, hU.up.imp (fun {a b} q => by omega), fun a ha b hb e => hU.new b hb (by rw [← e]; exact ha)⟩
  · intro x hx
    rcases List.mem_append.1 hx with hx | hx
    · exact h.vt x hx
    · refine ⟨hU.vf x hx, ?_⟩
      rcases hU.fr x hx with e | ⟨y, hy, hk⟩
      · omega
      · unfold kidsL at hk
        cases hq : s.ks[y / 2]? with
        | none => rw [hq] at hk; cases hk
        | some k =>
          rw [hq] at hk
          simp only at hk
          split at hk
          · rename_i hi
            have hkk := h.inv.kid _ _ hq (isK_ne hi)
            intro e
            have : x / 2 = 0 := by omega
            rcases List.mem_cons.1 hk with e2 | e2
            · rw [e2, xr_half] at this; omega
            · rw [List.mem_singleton.1 e2, xr_half] at this; omega
          · cases hk
  · intro x hx y hy
    rcases List.mem_append.1 hx with hx | hx
    · exact List.mem_append.2 (Or.inl (h.cl x hx y hy))
    · exact List.mem_append.2 (hU.cl x hx y hy)
  · obtain ⟨N, n1, n2, n3, n4⟩ := h.nm
    refine ⟨N ++ NL, ?_, ?_, ?_, ?_⟩
    · rw [List.nodup_append]
      refine ⟨n1, hnd, fun a ha b hb e => ?_⟩
      have := (n2 a).2 ha
      rw [e, hfree b hb] at this
      cases this
    · intro n
      rw [List.mem_append]
      constructor
      · intro e
        by_cases hn : n ∈ NL
        · exact Or.inr hn
        · have e' : (asg s.V s.vars NL n).isSome = true := e
          rw [asg_out NL _ _ hn] at e'
          exact Or.inl ((n2 n).1 e')
      · rintro (e | e)
        · show (asg s.V s.vars NL n).isSome = true
          rw [hold n ((n2 n).2 e)]; exact (n2 n).2 e
        · obtain ⟨v, hv, -⟩ := asg_in NL s.V s.vars hnd e
          show (asg s.V s.vars NL n).isSome = true
          rw [hv]; rfl
    · intro n hn
      rcases List.mem_append.1 hn with hn | hn
      · exact n3 n hn
      · obtain ⟨y, hy, -, rfl⟩ := (hm n).1 hn
        have h2 := hU.vf y hy
        show 0 ≤ ((y / 2 : Nat) : Int) ∧ ((y / 2 : Nat) : Int) < (s.ks.length : Int)
        omega
    · show s.vars + (NL.length : Int) = _
      rw [List.length_append]
      omega
  · intro n v e
    show first ≤ v ∧ v ≤ s.vars + (NL.length : Int)
    rcases hrg n v e with ⟨e1, -⟩ | ⟨-, e2, e3⟩
    · have := h.rg n v e1; omega
    · omega
  · intro n m v e e'
    rcases hrg n v e with ⟨e1, f1⟩ | ⟨f1, e2, e3⟩
    · rcases hrg m v e' with ⟨e1', -⟩ | ⟨f1', e2', e3'⟩
      · exact h.ij n m v e1 e1'
      · have := h.rg n v e1; omega
    · rcases hrg m v e' with ⟨e1', -⟩ | ⟨f1', e2', e3'⟩
      · have := h.rg m v e1'; omega
      · exact asg_inj NL _ _ hnd f1 f1' e e'
  · show s.C ++ clsL s.ks (asg s.V s.vars NL) L = clsL s.ks (asg s.V s.vars NL) (s.T ++ L)
    rw [h.cc]
    unfold clsL
    rw [List.flatMap_append]
    congr 1
    exact flat_eq (fun x hx => (cls_eq rfl (hold _ (h.dm x hx)) (fun y hy => hold _ (h.dm y (h.cl x hx y hy)))).symm)
  · show s.Rs ++ [lit (asg s.V s.vars NL) l] = (s.Lt ++ [l]).map (lit (asg s.V s.vars NL))
    rw [h.rt, List.map_append]
    congr 1
    refine List.map_congr_left (fun a ha => (lit_eq (hold _ ?_)).symm)
    have := h.dm _ (h.lt a ha)
    rwa [show max a 1 / 2 = a / 2 by omega] at this
  · intro a ha
    rcases List.mem_append.1 ha with ha | ha
    · exact List.mem_append.2 (Or.inl (h.lt a ha))
    · rw [List.mem_singleton.1 ha]; exact hml
  · have hs := hTL _ hml
    rw [hhalf] at hs
    show lit (asg s.V s.vars NL) l ≠ 0
    obtain ⟨v, hv⟩ := Option.isSome_iff_exists.1 hs
    have hpos : 1 ≤ v := by
      rcases hrg _ v hv with ⟨e1, -⟩ | ⟨-, e2, -⟩
      · have := h.rg _ v e1; omega
      · omega
    unfold lit
    rw [hv]
    split <;> simp <;> omega
/-- A literal that is told brings nothing more. -/
theorem uo_nil {ks : List Kd} (hi : Inv ks) {T : List Nat} {l : Nat} (hl : l ∈ T) {L : List Nat} (h : UO ks T l L) : L = [] := by
  have key : ∀ d x, x ∈ L → ks.length - x / 2 ≤ d → False := by
    intro d
    induction d with
    | zero => intro x hx hd; have := h.vf x hx; omega
    | succ d ih =>
      intro x hx hd
      rcases h.fr x hx with e | ⟨y, hy, hk⟩
      · exact h.new x hx (by rw [e]; exact hl)
      · have := (kidsL_lt hi (h.vf y hy) hk).1
        have := h.vf x hx
        exact ih y hy (by omega)
  cases L with
  | nil => rfl
  | cons x r => exact (key _ x List.mem_cons_self (Nat.le_refl _)).elim
theorem kidsL_pre {ks ks2 : List Kd} (hp : ks <+: ks2) {x : Nat} (hx : x / 2 < ks.length) : ks2[x / 2]? = ks[x / 2]? := by
  obtain ⟨r, rfl⟩ := hp
  exact List.getElem?_append_left hx
/-- The graph grows. -/
theorem Pz.grow {first : Int} {f : Nat} {s : Rz} {ks2 : List Kd} (h : Pz first f s) (hp : s.ks <+: ks2) (hi : Inv ks2) : Pz first f { s with ks := ks2 } := by
  have hl := hp.length_le
  have hk : ∀ x ∈ s.T, kidsL ks2 x = kidsL s.ks x := fun x hx => by
    unfold kidsL
    rw [kidsL_pre hp (h.vt x hx).1]
  refine ⟨hi, h.nd, fun x hx => ⟨Nat.lt_of_lt_of_le (h.vt x hx).1 hl, (h.vt x hx).2⟩, fun x hx y hy => h.cl x hx y (by rw [← hk x hx]; exact hy), ?_, h.rg, h.ij, h.dm, ?_, h.rt, h.lt⟩
  · obtain ⟨N, n1, n2, n3, n4⟩ := h.nm
    exact ⟨N, n1, n2, fun n hn => ⟨(n3 n hn).1, by have := (n3 n hn).2; show n < (ks2.length : Int); omega⟩, n4⟩
  · show s.C = clsL ks2 s.V s.T
    rw [h.cc]
    unfold clsL
    exact flat_eq (fun x hx => (cls_eq (kidsL_pre hp (h.vt x hx).1) rfl (fun _ _ => rfl)).symm)
theorem Pz.fresh {first : Int} {f : Nat} {s : Rz} (h : Pz first f s) : Pz first (f + 1) { s with vars := s.vars + 1 } := by
  refine ⟨h.inv, h.nd, h.vt, h.cl, ?_, fun n v e => by have := h.rg n v e; show first ≤ v ∧ v ≤ s.vars + 1; omega, h.ij, h.dm, h.cc, h.rt, h.lt⟩
  obtain ⟨N, n1, n2, n3, n4⟩ := h.nm
  exact ⟨N, n1, n2, n3, by show s.vars + 1 = _; omega⟩
def stS (first : Int) : Rz := ⟨[(0, 0)], first - 1, fun _ => none, [], [], [], []⟩
theorem Pz.start (first : Int) : Pz first 0 (stS first) := by
  refine ⟨Inv.one, List.nodup_nil, (fun x hx => nomatch hx), (fun x hx => nomatch hx), ⟨[], List.nodup_nil, fun n => ?_, (fun n hn => nomatch hn), ?_⟩, (fun n v e => nomatch e), (fun n m v e => nomatch e), (fun x hx => nomatch hx), rfl, rfl, (fun x hx => nomatch hx)⟩
  · constructor
    · intro e; cases e
    · intro e; cases e
  · show first - 1 = first - 1 + ((0 : Nat) : Int) + ((0 : Nat) : Int)
    omega
end Go.Proofs.Ytajpnlmglkifcaa
