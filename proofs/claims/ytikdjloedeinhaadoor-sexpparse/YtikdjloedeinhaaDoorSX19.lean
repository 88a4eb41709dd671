/- SexpPrefix: a text that is right stays right when it is cut, but for brackets and bars that are open then. -/
import Derived.Test.YtikdjloedeinhaaDoorSX18
namespace Go.Proofs.YtikdjloedeinhaaDoor
open Go.RowKit
set_option linter.unusedSimpArgs false
set_option linter.unusedVariables false

/-- Where lists and bars that are open began. -/
structure Iv (l : List UInt8) (s : Ps) : Prop where
  pos : s.pos = l.length
  ne : s.st ≠ []
  opn : ∀ f ∈ s.st.dropLast, l[f.1]? = some 40
  bar : ∀ f a, s.md = .bar f a → l[f]? = some 124
theorem get_snoc {l : List UInt8} {c x : UInt8} {i : Nat} (h : l[i]? = some x) : (l ++ [c])[i]? = some x := by
  have hl : i < l.length := (List.getElem?_eq_some_iff.1 h).1
  rw [List.getElem?_append_left hl]; exact h
theorem get_last (l : List UInt8) (c : UInt8) : (l ++ [c])[l.length]? = some c := by simp
theorem addS_ne {x : Sx} {st : Stk} (h : st ≠ []) : addS x st ≠ [] := by
  cases st with
  | nil => exact absurd rfl h
  | cons a r => simp [addS]
theorem addS_drop {x : Sx} {st : Stk} {P : Nat → Prop} (h : ∀ f ∈ st.dropLast, P f.1) : ∀ f ∈ (addS x st).dropLast, P f.1 := by
  cases st with
  | nil => exact h
  | cons a r =>
    cases r with
    | nil => intro f hf; simp [addS] at hf
    | cons b q =>
      obtain ⟨p, ks⟩ := a
      intro f hf
      have e : (addS x ((p, ks) :: b :: q)).dropLast = (p, ks ++ [x]) :: (b :: q).dropLast := rfl
      rw [e] at hf
      rcases List.mem_cons.1 hf with rfl | hf
      · exact h (p, ks) (by show _ ∈ (p, ks) :: (b :: q).dropLast; simp)
      · exact h f (by show f ∈ (p, ks) :: (b :: q).dropLast; exact List.mem_cons_of_mem _ hf)
theorem Iv.stN {l : List UInt8} {st : Stk} {c : UInt8} (hne : st ≠ []) (ho : ∀ f ∈ st.dropLast, l[f.1]? = some 40) : Iv (l ++ [c]) (stN l.length st c) := by
  have ho' : ∀ f ∈ st.dropLast, (l ++ [c])[f.1]? = some 40 := fun f hf => get_snoc (ho f hf)
  have hp : (l ++ [c]).length = l.length + 1 := by simp
  unfold Go.Proofs.YtikdjloedeinhaaDoor.stN
  split
  · exact ⟨hp.symm, hne, ho', fun f a e => by cases e⟩
  · split
    · exact ⟨hp.symm, hne, ho', fun f a e => by cases e⟩
    · split
      · rename_i h40
        split
        · exact ⟨hp.symm, hne, ho', fun f a e => by cases e⟩
        · refine ⟨hp.symm, by simp, ?_, fun f a e => by cases e⟩
          intro f hf
          obtain ⟨a, r, rfl⟩ : ∃ a r, st = a :: r := by cases st with | nil => exact absurd rfl hne | cons a r => exact ⟨a, r, rfl⟩
          have e : ((l.length, ([] : List Sx)) :: a :: r).dropLast = (l.length, []) :: (a :: r).dropLast := rfl
          rw [e] at hf
          rcases List.mem_cons.1 hf with rfl | hf
          · show (l ++ [c])[l.length]? = some 40
            rw [get_last, h40]
          · exact ho' f hf
      · split
        · match st, hne, ho' with
          | [], hne, _ => exact absurd rfl hne
          | [a], _, ho' => exact ⟨hp.symm, by simp, ho', fun f a e => by cases e⟩
          | (p0, ks0) :: b :: r, _, ho' =>
            show Iv (l ++ [c]) ⟨l.length + 1, addS (.mk ⟨#[]⟩ true ks0) (b :: r), .no⟩
            refine ⟨hp.symm, addS_ne (st := b :: r) (by simp), addS_drop (x := .mk ⟨#[]⟩ true ks0) (st := b :: r) (P := fun i => (l ++ [c])[i]? = some 40) ?_, fun f a e => by cases e⟩
            intro f hf
            exact ho' f (by show f ∈ (p0, ks0) :: (b :: r).dropLast; exact List.mem_cons_of_mem _ hf)
        · split
          · rename_i h124
            refine ⟨hp.symm, hne, ho', fun f a e => ?_⟩
            injection e with e1 e2
            rw [← e1, get_last, h124]
          · split
            · exact ⟨hp.symm, hne, ho', fun f a e => by cases e⟩
            · exact ⟨hp.symm, hne, ho', fun f a e => by cases e⟩
theorem Iv.stA {l : List UInt8} {s : Ps} (h : Iv l s) (c : UInt8) : Iv (l ++ [c]) (stA s c) := by
  have hp : (l ++ [c]).length = l.length + 1 := by simp
  have ho' : ∀ f ∈ s.st.dropLast, (l ++ [c])[f.1]? = some 40 := fun f hf => get_snoc (h.opn f hf)
  have hpos := h.pos
  unfold Go.Proofs.YtikdjloedeinhaaDoor.stA
  split
  · rw [hpos]; exact Iv.stN h.ne h.opn
  · refine ⟨by show s.pos + 1 = _; omega, h.ne, ho', fun f a e => ?_⟩
    by_cases hc : c = 10
    · have e' : (if c = 10 then Md.no else Md.rem) = .bar f a := e
      rw [if_pos hc] at e'; cases e'
    · have e' : (if c = 10 then Md.no else Md.rem) = .bar f a := e
      rw [if_neg hc] at e'; cases e'
  · split
    · exact ⟨by show s.pos + 1 = _; omega, h.ne, ho', fun f a e => by cases e⟩
    · rw [hpos]; exact Iv.stN (addS_ne h.ne) (addS_drop (P := fun i => l[i]? = some 40) h.opn)
  · rename_i f0 a0 hm
    split
    · exact ⟨by show s.pos + 1 = _; omega, addS_ne h.ne, addS_drop (P := fun i => (l ++ [c])[i]? = some 40) ho', fun f a e => by cases e⟩
    · split
      · exact ⟨by show s.pos + 1 = _; omega, h.ne, ho', fun f a e => by cases e⟩
      · refine ⟨by show s.pos + 1 = _; omega, h.ne, ho', fun f a e => ?_⟩
        injection e with e1 e2
        rw [← e1]; exact get_snoc (h.bar f0 a0 hm)
  · exact ⟨by show s.pos + 1 = _; omega, h.ne, ho', fun f a e => by cases e⟩
theorem Iv.rd : ∀ (m l : List UInt8) (s : Ps), Iv l s → Iv (l ++ m) (rd s m)
  | [], l, s, h => by rw [List.append_nil]; exact h
  | c :: m, l, s, h => by
    have := Iv.rd m (l ++ [c]) (Go.Proofs.YtikdjloedeinhaaDoor.stA s c) (h.stA c)
    rw [List.append_assoc] at this
    exact this
theorem Iv.start : Iv [] s0 := ⟨rfl, by simp [s0], fun f hf => by simp [s0] at hf, fun f a e => by cases e⟩
/-- What the end of a text makes of a state without an error. -/
theorem fin_cut {l : List UInt8} {s : Ps} (h : Iv l s) (he : ∀ p e, s.md ≠ .err p e) : (fin s).2.2 = 0 ∨ ((fin s).2.2 = 20 ∧ l[(fin s).2.1]? = some 40) ∨ ((fin s).2.2 = 22 ∧ l[(fin s).2.1]? = some 124) := by
  have key : ∀ st : Stk, st ≠ [] → (∀ f ∈ st.dropLast, l[f.1]? = some 40) → (finS st).2.2 = 0 ∨ ((finS st).2.2 = 20 ∧ l[(finS st).2.1]? = some 40) := by
    intro st hne ho
    match st, hne, ho with
    | [], hne, _ => exact absurd rfl hne
    | [a], _, _ => exact Or.inl rfl
    | a :: b :: r, _, ho => exact Or.inr ⟨rfl, ho a (by show a ∈ a :: (b :: r).dropLast; simp)⟩
  unfold fin
  split
  · rcases key _ h.ne h.opn with k | k
    · exact Or.inl k
    · exact Or.inr (Or.inl k)
  · rcases key _ h.ne h.opn with k | k
    · exact Or.inl k
    · exact Or.inr (Or.inl k)
  · rcases key _ (addS_ne h.ne) (addS_drop (P := fun i => l[i]? = some 40) h.opn) with k | k
    · exact Or.inl k
    · exact Or.inr (Or.inl k)
  · rename_i f a hm
    exact Or.inr (Or.inr ⟨rfl, h.bar f a hm⟩)
  · rename_i p e hm
    exact absurd hm (he p e)
def cutT (t : ByteArray) (p : Nat) : ByteArray := t.extract 0 p
theorem cutT_list {t : ByteArray} {p : Nat} (h : p ≤ t.size) : (cutT t p).data.toList = t.data.toList.take p := by
  unfold cutT
  rw [ext_cut h]
  show (cutL t 0 p).toArray.toList = _
  simp [cutL]
theorem cutT_size {t : ByteArray} {p : Nat} (h : p ≤ t.size) : (cutT t p).size = p := by
  rw [← len_t, cutT_list h, List.length_take, len_t]; omega
/-- The prefix of a text that is right. -/
theorem pars_cut {t : ByteArray} {ks : List Sx} {p : Nat} (ht : t.size ≤ 4000) (h : pars t = (ks, 0, 0)) (hp : p ≤ t.size) :
    (pars (cutT t p)).2.2 = 0 ∨ ((pars (cutT t p)).2.2 = 20 ∧ (cutT t p).data.toList[(pars (cutT t p)).2.1]? = some 40) ∨ ((pars (cutT t p)).2.2 = 22 ∧ (cutT t p).data.toList[(pars (cutT t p)).2.1]? = some 124) := by
  have e1 : pars t = fin (rd s0 t.data.toList) := by unfold pars; rw [if_neg (by omega)]
  have e2 : pars (cutT t p) = fin (rd s0 ((cutT t p).data.toList)) := by unfold pars; rw [if_neg (by rw [cutT_size hp]; omega)]
  rw [e2]
  have hI := Iv.rd (cutT t p).data.toList [] s0 Iv.start
  rw [List.nil_append] at hI
  refine fin_cut hI ?_
  intro a e hm
  have hs : t.data.toList = (cutT t p).data.toList ++ t.data.toList.drop p := by rw [cutT_list hp, List.take_append_drop]
  rw [e1, hs, rd_app] at h
  obtain ⟨q, st, hq⟩ : ∃ q st, rd s0 (cutT t p).data.toList = ⟨q, st, .err a e⟩ := ⟨_, _, by rw [← hm]⟩
  have hne : ¬ e = 0 := by
    intro e0
    have hz : ∀ (m : List UInt8) (s : Ps), (∀ a' e', s.md = .err a' e' → ¬ e' = 0) → ∀ a' e', (rd s m).md = .err a' e' → ¬ e' = 0 := by
      intro m
      induction m with
      | nil => intro s hs; exact hs
      | cons c m ih =>
        intro s hs
        refine ih (Go.Proofs.YtikdjloedeinhaaDoor.stA s c) ?_
        have hN : ∀ (p0 : Nat) (st0 : Stk) a' e', (Go.Proofs.YtikdjloedeinhaaDoor.stN p0 st0 c).md = .err a' e' → ¬ e' = 0 := by
          intro p0 st0 a' e' hm'
          unfold Go.Proofs.YtikdjloedeinhaaDoor.stN at hm'
          repeat' split at hm'
          all_goals first | (cases hm'; done) | (injection hm' with h1 h2; omega)
        intro a' e' hm'
        unfold Go.Proofs.YtikdjloedeinhaaDoor.stA at hm'
        split at hm'
        · exact hN _ _ a' e' hm'
        · have hm2 : (if c = 10 then Md.no else Md.rem) = .err a' e' := hm'
          split at hm2 <;> cases hm2
        · split at hm'
          · cases hm'
          · exact hN _ _ a' e' hm'
        · split at hm'
          · cases hm'
          · split at hm'
            · injection hm' with h1 h2; omega
            · cases hm'
        · rename_i p1 e1' hmd
          injection hm' with h1 h2
          rw [← h2]; exact hs _ _ hmd
    exact hz _ s0 (fun a' e' h' => by cases h') a e (by rw [hq]) e0
  rw [hq] at h
  obtain ⟨k', hk⟩ := rd_err a e st (t.data.toList.drop p) q
  rw [hk] at h
  have h3 : e = 0 := by
    have := congrArg (fun r => r.2.2) h
    exact this
  exact hne h3

set_option maxRecDepth 20000 in
set_option maxHeartbeats 12800000 in
theorem walk_prefix (t : ByteArray) (n0 : Int) {w : World} (hg : Gl w) : Calls Tryd.prog 8 #[.string t, .int .i64 n0] w fun e w' => e = .returned (.bool true) ∧ Below w.heap.size w w' := by
  have HGL : Hid (Gl w) := hg
  have HKN : Hid _ := known_any hg
  clear hg
  by_cases ht : 4000 < t.size
  · have hi : (4000 : Int) < (t.size : Int) := by omega
    go_enter Tryd.func8, Tryd.ntmps8
    go_wp2_with fail
    refine Calls.mono HKN.out ?_
    rintro e w1 ⟨rfl, hb1⟩
    go_wp2_with fail
    go_ret
    exact ⟨rfl, hb1⟩
  · have hi : (t.size : Int) ≤ 4000 := by omega
    have HPA : Hid (∀ wx, Calls Tryd.prog 10 #[.string t] wx fun ev w' => ∃ v er, ev = .returned (.tuple #[v, er]) ∧ PR wx.heap.size w' v er (pars t) ∧ Below wx.heap.size wx w') := fun wx => Parse_any t wx
    obtain ⟨p, hp, hpt⟩ : ∃ p : Nat, (p : Int) = n0 % ((t.size : Int) + 1) ∧ p ≤ t.size := by
      have h1 := Int.emod_nonneg n0 (show ((t.size : Int) + 1) ≠ 0 by omega)
      have h2 := Int.emod_lt_of_pos n0 (show (0 : Int) < (t.size : Int) + 1 by omega)
      exact ⟨(n0 % ((t.size : Int) + 1)).toNat, by omega, by omega⟩
    have HPL : Hid (∀ wx, Calls Tryd.prog 23 #[.int .i64 n0, .int .i64 ((t.size : Int) + 1)] wx fun e w' => e = .returned (.int .i64 (p : Int)) ∧ w' = wx) := fun wx => by rw [hp]; exact place_any (by omega) (by omega) wx
    obtain ⟨ct, hct⟩ : ∃ ct, t.extract 0 p = ct := ⟨_, rfl⟩
    have HCT : Hid (cutT t p = ct) := hct
    have HPC : Hid (∀ wx, Calls Tryd.prog 10 #[.string ct] wx fun ev w' => ∃ v er, ev = .returned (.tuple #[v, er]) ∧ PR wx.heap.size w' v er (pars ct) ∧ Below wx.heap.size wx w') := fun wx => Parse_any _ wx
    have HCU : Hid (∀ ks, pars t = (ks, 0, 0) → (pars ct).2.2 = 0 ∨ ((pars ct).2.2 = 20 ∧ ct.data.toList[(pars ct).2.1]? = some 40) ∨ ((pars ct).2.2 = 22 ∧ ct.data.toList[(pars ct).2.1]? = some 124)) := fun ks h => by
      have := pars_cut (p := p) (by omega) h hpt
      rw [HCT.out] at this; exact this
    have HCS : Hid _ := cutT_size hpt
    have hpI : (p : Int) ≤ (t.size : Int) := by omega
    have hp0 : (0 : Int) ≤ (p : Int) := by omega
    clear hp ht
    go_enter Tryd.func8, Tryd.ntmps8
    go_wp2_with fail
    refine Calls.mono HKN.out ?_
    rintro e w1 ⟨rfl, hb1⟩
    have HB1 : Hid _ := hb1
    clear hb1 HKN
    go_wp2_with fail
    refine Calls.mono (HPA.out _) ?_
    rintro e w2 ⟨v, er, rfl, hP, hb2⟩
    have HB2 : Hid (Below w.heap.size w w2) := HB1.out.trans (hb2.mono HB1.out.size)
    clear hb2
    rcases hP with ⟨h0, h1, rfl, -⟩ | ⟨-, -, -, rfl, b, rfl, -⟩
    · have hR := HCU.out (pars t).1 (by rw [← h0]; rw [h0]; exact Prod.ext rfl (Prod.ext h1 h0))
      obtain ⟨r, hr⟩ : ∃ r, r = pars ct := ⟨_, rfl⟩
      rw [← hr] at hR HPC
      have HR : Hid _ := hR
      clear hR hr h0 h1
      go_wp2_with fail
      refine Calls.mono (HPL.out _) ?_
      rintro e w2' ⟨rfl, hw2⟩
      rw [hw2]
      clear hw2 w2'
      go_wp2_with fail
      refine Calls.mono (HPC.out _) ?_
      rintro e w3 ⟨v3, er3, rfl, hP3, hb3⟩
      have HB3 : Hid (Below w.heap.size w w3) := HB2.out.trans (hb3.mono HB2.out.size)
      have HT3 : Hid _ := told_any (HGL.out.below HB3.out) hP3
      clear hb3
      rcases hP3 with ⟨h0, h1, rfl, -⟩ | ⟨hn0, -, -, rfl, b, rfl, -⟩
      · go_wp2_with fail
        refine Calls.mono HT3.out ?_
        rintro e w4 ⟨rfl, hb4⟩
        go_wp2_with fail
        go_ret
        exact ⟨rfl, HB3.out.trans (hb4.mono HB3.out.size)⟩
      · have hR := HR.out.resolve_left hn0
        obtain ⟨rk, ra, re⟩ := r
        dsimp only at hR HT3
        rcases hR with ⟨rfl, hc⟩ | ⟨rfl, hc⟩
        · have hra : ra < ct.size := by rw [← len_t]; exact (List.getElem?_eq_some_iff.1 hc).1
          have hra' : ra < ct.size := hra
          have hbc0 : (ct[ra]'hra').toNat = 40 := by
            have := byte_at hra
            rw [hc] at this
            have e2 : (40 : UInt8) = ct[ra]'hra := Option.some.inj this
            show (ct[ra]'hra).toNat = 40
            rw [← e2]; rfl
          have hbc : (((ct[ra]'hra').toNat : Int) == 40) = true := by rw [hbc0]; rfl
          clear hbc0
          have hraI : (ra : Int) < (ct.size : Int) := by omega
          clear hc
          go_wp2_with fail
          refine Calls.mono HT3.out ?_
          rintro e w4 ⟨rfl, hb4⟩
          go_wp2_with fail
          go_ret
          exact ⟨rfl, HB3.out.trans (hb4.mono HB3.out.size)⟩
        · have hra : ra < ct.size := by rw [← len_t]; exact (List.getElem?_eq_some_iff.1 hc).1
          have hra' : ra < ct.size := hra
          have hbc0 : (ct[ra]'hra').toNat = 124 := by
            have := byte_at hra
            rw [hc] at this
            have e2 : (124 : UInt8) = ct[ra]'hra := Option.some.inj this
            show (ct[ra]'hra).toNat = 124
            rw [← e2]; rfl
          have hbc : (((ct[ra]'hra').toNat : Int) == 124) = true := by rw [hbc0]; rfl
          clear hbc0
          have hraI : (ra : Int) < (ct.size : Int) := by omega
          clear hc
          go_wp2_with fail
          refine Calls.mono HT3.out ?_
          rintro e w4 ⟨rfl, hb4⟩
          go_wp2_with fail
          go_ret
          exact ⟨rfl, HB3.out.trans (hb4.mono HB3.out.size)⟩
    · go_wp2_with fail
      go_ret
      exact ⟨rfl, HB2.out⟩
end Go.Proofs.YtikdjloedeinhaaDoor
