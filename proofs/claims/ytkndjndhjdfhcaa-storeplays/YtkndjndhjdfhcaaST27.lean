/- Contracts (store's walk): begin. -/
import Derived.Test.YtkndjndhjdfhcaaST26
namespace Go.Proofs.Ytkndjndhjdfhcaa
open Go.RowKit
set_option linter.unusedSimpArgs false
set_option linter.unusedVariables false

/-- The shortest clauses are true. -/
def Uni (C : List (List Int)) (T : List Int) : Prop := ∀ c ∈ C, c.length < 2 → ∃ y ∈ c, y ∈ T
/-- Nothing more follows. -/
def Clo (C : List (List Int)) (T : List Int) : Prop := ∀ c ∈ C, (∃ y ∈ c, y ∈ T) ∨ ∃ y ∈ c, ∃ z ∈ c, y ≠ z ∧ -y ∉ T ∧ -z ∉ T
theorem clo_of {C : List (List Int)} {M : List (Nat × Nat)} {P : Nat → Nat × Nat} {T : List Int} {l : Int} (h : Iv C M P T T l []) (hu : Uni C T) (hok : ∀ c ∈ C, Okc c) : Clo C T := by
  intro c hc
  by_cases h2 : c.length < 2
  · exact Or.inl (hu c hc h2)
  · obtain ⟨i, hi, rfl⟩ := List.getElem_of_mem hc
    have hi' : C[i]? = some C[i] := List.getElem?_eq_getElem hi
    obtain ⟨p1, p2, p3⟩ := h.pl i _ hi' (by omega)
    have h4 := h.i2 i _ hi' (by omega) (P i).1 (P i).2 (Or.inl rfl)
    have h5 := h.i2 i _ hi' (by omega) (P i).2 (P i).1 (Or.inr rfl)
    by_cases q1 : -(C[i].getD (P i).1 0) ∈ T
    · rcases h4 q1 with ⟨-, h6⟩ | h6
      · cases h6
      · exact Or.inl ⟨_, getD_mem p2, h6⟩
    · by_cases q2 : -(C[i].getD (P i).2 0) ∈ T
      · rcases h5 q2 with ⟨-, h6⟩ | h6
        · cases h6
        · exact Or.inl ⟨_, getD_mem p1, h6⟩
      · exact Or.inr ⟨_, getD_mem p1, _, getD_mem p2, getD_ne (hok _ hc).once p1 p2 p3, q1, q2⟩
theorem Uni.pre {C : List (List Int)} {T T' : List Int} (h : Uni C T) (hp : T <+: T') : Uni C T' := fun c hc h2 => by
  obtain ⟨y, hy, ht⟩ := h c hc h2
  exact ⟨y, hy, hp.subset ht⟩
/-- What begin leaves. -/
def BegR (w0 : World) (F0 : Nat → Prop) (w' : World) (s mo b N rt : Nat) (C : List (List Int)) (m : Nat) (r : Int) : Prop :=
  ∃ M' P' T' k', WS [] w0 F0 w' s mo b N rt C m M' P' T' k' ∧ Der C [] T' ∧
    ((r = -1 ∧ k' = T'.length ∧ Iv C M' P' T' T' 0 [] ∧ Uni C T') ∨ ∃ (i : Nat) (c : List Int), r = (i : Int) ∧ C[i]? = some c ∧ (∀ y ∈ c, -y ∈ T') ∧ (∀ x ∈ T', isL x = true) ∧ T'.Nodup ∧ ∀ x ∈ T', -x ∉ T')
set_option maxRecDepth 20000 in
set_option maxHeartbeats 25600000 in
theorem begin_any {w0 w : World} {F0 : Nat → Prop} {s mo b N rt : Nat} {C : List (List Int)} {m : Nat} (h : WS [] w0 F0 w s mo b N rt C m [] (fun _ => (0, 1)) [] 0) :
    Calls Try.prog 50 #[.pointer (some ⟨b, 0, none⟩)] w fun e w' => ∃ r : Int, e = .returned (.int .i64 r) ∧ BegR w0 F0 w' s mo b N rt C m r := by
  obtain ⟨F, vo, vm, hK⟩ := h.wk
  obtain ⟨va, vb, vs, vw, us, hS, -⟩ := hK.st
  have c0 : w.cell? ⟨b, 0, none⟩ = some (.pointer (some ⟨s, 0, none⟩)) := cell_of hK.hd 0 rfl
  have c3 : w.cell? ⟨s, 3, none⟩ = some vs := cell_of hS.hd 3 rfl
  have H : Hid (WS [] w0 F0 w s mo b N rt C m [] (fun _ => (0, 1)) [] 0) := h
  have HK : Hid _ := hK
  have HS : Hid (St w F s mo va vb vs vw us (arP C (fun _ => (0, 1)) 0) (bds C) (shs C) (wlsU C m [] [])) := hS
  obtain ⟨a3, n3, k3, hv3, HN3⟩ := own_sl hS.rs
  subst hv3
  have HV3 : Hid (Is' w 0 (.slice a3 n3 k3) (shs C)) := hS.rs
  have har := h.wc.ar
  have hn3 : n3 ≤ 131072 := by rw [HN3.out]; exact Nat.le_trans (ixs_len _ _) (by have := ar_len2 C; omega)
  clear h hK hS
  go_enter Try.func50, Try.ntmps50
  go_wp2_with fail
  go_loopw [14] (fun ix wr => ∃ (j : Nat) (T1 : List Int) (vo1 : Value), j ≤ n3 ∧ ix = .int .i64 (j : Int) ∧ Hid (Wk [] w0 F0 wr F s mo b N rt vo1 vm (arP C (fun _ => (0, 1)) 0) C (wlsU C m [] []) [] T1 0 ∧ (∀ x ∈ T1, sp x ≤ N) ∧ Iv C [] (fun _ => (0, 1)) T1 [] 0 [] ∧ Der C [] T1 ∧ (∀ t, t < j → ∃ c, C[((shs C).getD t 0).toNat]? = some c ∧ ∃ y ∈ c, y ∈ T1) ∧ ∀ q, q < w.heap.size → F q → wr.heap[q]? = w.heap[q]?)) (fun ix wr => n3 - (intOf ix).toNat)
  case atStart => exact ⟨0, [], vo, Nat.zero_le _, rfl, HK.out, (fun x hx => nomatch hx), Iv.start H.out.wc.ok, Der.nil _ _, (fun t ht => by omega), fun _ _ _ => rfl⟩
  case round =>
    obtain ⟨j, T1, vo1, hj, rfl, hH⟩ := hrel
    have d0 : wr.cell? ⟨b, 0, none⟩ = some (.pointer (some ⟨s, 0, none⟩)) := cell_of hH.out.1.hd 0 rfl
    have HTL : Hid (T1.length ≤ 131074) := Nat.le_trans (told_len hH.out.2.2.1.nd hH.out.2.1) H.out.wc.nN
    by_cases hlt : j < n3
    · have hjl : j < (shs C).length := by rw [← HN3.out]; exact hlt
      have hrow : Is' wr 0 (.slice a3 n3 k3) (shs C) := row_own HV3.out (fun q e => hH.out.2.2.2.2.2 q (World.ownsRow.lt HV3.out q e).2 (HS.out.fam.foot 2 _ q rfl e))
      obtain ⟨g0, o0, rfl, hck⟩ := (Is'.sr hrow).at' (Below.refl _ _) (k := j) hjl
      obtain ⟨i, c, hi, hsh, he⟩ := mem_ixs.1 (getD_mem hjl)
      have hsh2 : c.length < 2 := of_decide_eq_true hsh
      have he : (shs C).getD j 0 = (i : Int) := he
      rw [he] at hck
      have HE : Hid ((shs C).getD j 0 = (i : Int)) := he
      obtain ⟨ra, na, ca, vb', vs', vw', us', hS', -, hPc, hra, hfz, hcell⟩ := hH.out.1.piece har hi
      have HLQ : Hid _ := literals_q hPc
      have hsucc := arN_succ hi
      obtain ⟨fr, hfr⟩ : ∃ n, n = arN C i := ⟨_, rfl⟩
      rw [← hfr] at HLQ hcell hsucc
      rw [hsucc, show fr + 2 + c.length - fr - 2 = c.length by omega] at HLQ
      have HI : Hid (C[i]? = some c) := hi
      have hok := H.out.wc.ok c (List.mem_of_getElem? hi)
      have HOK : Hid (Okc c) := hok
      have hltI : (j : Int) < (n3 : Int) := by omega
      match c, hsh2 with
      | [], _ =>
        have HC0 : Hid (C[i]? = some []) := hi
        unfold litV at HLQ
        rw [if_pos (by rfl : ([] : List Int).length = 0)] at HLQ
        have e0 : ([] : List Int).length = 0 := rfl
        rw [e0] at HLQ
        clear hi he hrow hjl hS' hPc hfz hcell hsucc hfr hok
        go_wp2_with fail
        refine Calls.mono HLQ.out ?_
        rintro ev w1 ⟨rfl, d1, hw1⟩
        have ha1 : Al wr w1 := by rw [hw1]; exact Al.drewN wr d1
        have HA1 : Hid _ := ha1
        clear hw1 ha1
        go_wp2_with fail
        go_ret
        exact ⟨_, rfl, [], fun _ => (0, 1), T1, 0, ⟨⟨F, vo1, vm, hH.out.1.al HA1.out⟩, H.out.wc, H.out.mv, hH.out.2.1⟩, hH.out.2.2.2.1, Or.inr ⟨i, [], rfl, HC0.out, (fun y hy => nomatch hy), hH.out.2.2.1.lit, hH.out.2.2.1.nd, hH.out.2.2.1.cons⟩⟩
      | [x], _ =>
        have HC1 : Hid (C[i]? = some [x]) := hi
        have hxl : isL x = true := hok.lit x (by simp)
        have hxs := isL_sm hxl
        have hxN : sp x ≤ N := Nat.le_trans (H.out.wc.rm [x] (List.mem_of_getElem? hi) x (by simp)) H.out.wc.mN
        have hcd := cd_sp x
        have hcdn := cd_sp (-x)
        have hspn : sp (-x) = sp x := by unfold sp; rw [Int.natAbs_neg]
        unfold litV at HLQ
        have e1 : ([x] : List Int).length = 1 := rfl
        rw [e1, if_neg (by decide : ¬ (1 = 0))] at HLQ
        have hcx := hcell 2 (by simp)
        have hcx2 : wr.cell? ⟨ra, fr + 2, none⟩ = some (.int .i64 x) := by rw [hcx]; rfl
        clear hi he hrow hjl hS' hPc hfz hcell hsucc hfr hok hcx
        go_wp2_with fail
        refine Calls.mono HLQ.out ?_
        rintro ev w1 ⟨rfl, d1, hw1⟩
        have ha1 : Al wr w1 := by rw [hw1]; exact Al.drewN wr d1
        have HA1 : Hid _ := ha1
        have hcx3 : w1.cell? ⟨ra, fr + 2, none⟩ = some (.int .i64 x) := by rw [ha1.cell]; exact hcx2
        have HK1 : Hid _ := hH.out.1.al ha1
        have HIF : Hid _ := HK1.out.isF (l := x) hxs (by omega)
        obtain ⟨bf, hbf⟩ : ∃ bf, bf = decide (-x ∈ T1) := ⟨_, rfl⟩
        rw [← hbf] at HIF
        have HBF : Hid _ := hbf
        clear hw1 ha1 hbf
        go_wp2_with fail
        refine Calls.mono HIF.out ?_
        rintro ev w2 ⟨rfl, d2, hw2⟩
        have ha2 : Al w1 w2 := by rw [hw2]; exact Al.drewN w1 d2
        have hcx4 : w2.cell? ⟨ra, fr + 2, none⟩ = some (.int .i64 x) := by rw [ha2.cell]; exact hcx3
        have HA2 : Hid (Al wr w2) := HA1.out.trans ha2
        clear hw2 ha2 hcx3
        cases bf with
        | true =>
          go_wp2_with fail
          go_ret
          refine ⟨_, rfl, [], fun _ => (0, 1), T1, 0, ⟨⟨F, vo1, vm, hH.out.1.al HA2.out⟩, H.out.wc, H.out.mv, hH.out.2.1⟩, hH.out.2.2.2.1, Or.inr ⟨i, [x], rfl, HC1.out, fun y hy => ?_, hH.out.2.2.1.lit, hH.out.2.2.1.nd, hH.out.2.2.1.cons⟩⟩
          rw [List.mem_singleton.1 hy]
          exact decide_eq_true_iff.1 HBF.out.symm
        | false =>
          have HSE : Hid _ := set_any (hH.out.1.al HA2.out) hxs (by omega : cd x < N) (by have := HTL.out; omega)
          go_wp2_with fail
          refine Calls.mono HSE.out ?_
          rintro ev w3 ⟨rfl, vo3, hK3, hfr3⟩
          have HK3 : Hid _ := hK3
          have HF3 : Hid _ := hfr3
          clear hK3 hfr3 HSE
          go_wp2_with fail
          have hnx := decide_eq_false_iff_not.1 HBF.out.symm
          have hsz2 : w2.heap.size = wr.heap.size := by rw [HA2.out.heap]
          refine ⟨⟨j + 1, if x ∈ T1 then T1 else T1 ++ [x], vo3, by omega, by go_num, HK3.out, fun y hy => ?_, ?_, ?_, fun t ht => ?_, fun q hq hf => ?_⟩, by simp [intOf]; omega⟩
          · by_cases hm : x ∈ T1
            · rw [if_pos hm] at hy; exact hH.out.2.1 y hy
            · rw [if_neg hm] at hy
              rcases List.mem_append.1 hy with hy | hy
              · exact hH.out.2.1 y hy
              · rw [List.mem_singleton.1 hy]; exact hxN
          · by_cases hm : x ∈ T1
            · rw [if_pos hm]; exact hH.out.2.2.1
            · rw [if_neg hm]; exact hH.out.2.2.1.told hxl hm hnx
          · by_cases hm : x ∈ T1
            · rw [if_pos hm]; exact hH.out.2.2.2.1
            · rw [if_neg hm]
              exact hH.out.2.2.2.1.snoc (Or.inr ⟨[x], List.mem_of_getElem? HC1.out, by simp, fun y hy hne => absurd (List.mem_singleton.1 hy) hne⟩)
          · have hsub : ∀ y ∈ T1, y ∈ (if x ∈ T1 then T1 else T1 ++ [x]) := fun y hy => by
              by_cases hm : x ∈ T1
              · rw [if_pos hm]; exact hy
              · rw [if_neg hm]; exact List.mem_append_left _ hy
            by_cases e : t = j
            · rw [e, HE.out, Int.toNat_natCast]
              refine ⟨[x], HC1.out, x, by simp, ?_⟩
              by_cases hm : x ∈ T1
              · rw [if_pos hm]; exact hm
              · rw [if_neg hm]; simp
            · obtain ⟨c', h1, y, hy, h2⟩ := hH.out.2.2.2.2.1 t (by omega)
              exact ⟨c', h1, y, hy, hsub y h2⟩
          · have h4 := hH.out.1.lt q hf
            rw [HF3.out q (by omega) hf, HA2.out.heap]
            exact hH.out.2.2.2.2.2 q hq hf
    · obtain rfl : j = n3 := by omega
      have hltI : ¬ (j : Int) < (j : Int) := by omega
      have hWS : WS [] w0 F0 wr s mo b N rt C m [] (fun _ => (0, 1)) T1 0 := ⟨⟨F, vo1, vm, hH.out.1⟩, H.out.wc, H.out.mv, hH.out.2.1⟩
      have HSE : Hid _ := settle_any (I := []) hWS (by rw [List.take_zero]; exact hH.out.2.2.1) (Nat.zero_le _) hH.out.2.2.2.1
      have HU : Hid (Uni C T1) := by
        intro c hc h2
        obtain ⟨i, hi, rfl⟩ := List.getElem_of_mem hc
        have hm : (i : Int) ∈ shs C := mem_ixs.2 ⟨i, _, List.getElem?_eq_getElem hi, by simp; omega, rfl⟩
        obtain ⟨t, ht, hte⟩ := mem_getD.1 hm
        obtain ⟨c', h3, y, hy, h4⟩ := hH.out.2.2.2.2.1 t (by rw [HN3.out]; exact ht)
        rw [hte, Int.toNat_natCast, List.getElem?_eq_getElem hi] at h3
        rw [← Option.some.inj h3] at hy
        exact ⟨y, hy, h4⟩
      clear hWS
      go_wp2_with fail
      refine Calls.mono HSE.out ?_
      rintro ev w1 ⟨r, rfl, hR⟩
      have HR : Hid (SetR w0 F0 w1 s mo b N rt C m [] T1 r) := hR
      clear hR
      go_wp2_with fail
      go_ret
      obtain ⟨M', P', T', k', r1, r2, r3, r4⟩ := HR.out
      refine ⟨r, rfl, M', P', T', k', r1, r3, ?_⟩
      rcases r4 with ⟨e1, e2, e3⟩ | r4
      · exact Or.inl ⟨e1, e2, e3, HU.out.pre r2⟩
      · exact Or.inr r4
end Go.Proofs.Ytkndjndhjdfhcaa
