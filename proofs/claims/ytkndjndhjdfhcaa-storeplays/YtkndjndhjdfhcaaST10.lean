/- Contracts (store): watch. (Made by a script: st10.py.) -/
import Derived.Test.YtkndjndhjdfhcaaST9
namespace Go.Proofs.Ytkndjndhjdfhcaa
open Go.RowKit
set_option linter.unusedSimpArgs false
set_option linter.unusedVariables false

/-- Room for these literals. -/
def gw (W : List (List Int)) (c : List Int) : List (List Int) := c.foldl (fun W l => W ++ List.replicate (sp l - W.length) []) W
theorem gw_snoc (W : List (List Int)) (c : List Int) (l : Int) : gw W (c ++ [l]) = gw W c ++ List.replicate (sp l - (gw W c).length) [] := by
  unfold gw; rw [List.foldl_append]; rfl
theorem gw_len (W : List (List Int)) : ∀ (c : List Int), (∀ l ∈ c, sm l) → W.length ≤ 1000000 → (gw W c).length ≤ 1000000 := by
  intro c
  induction c generalizing W with
  | nil => intro _ h; exact h
  | cons l c ih =>
    intro h h1
    refine ih _ (fun y hy => h y (List.mem_cons_of_mem _ hy)) ?_
    have := h l (List.mem_cons_self ..)
    unfold sm at this
    rw [List.length_append, List.length_replicate]
    unfold sp
    omega
theorem gw_sp (W : List (List Int)) : ∀ (c : List Int), W.length ≤ (gw W c).length ∧ ∀ l ∈ c, sp l ≤ (gw W c).length := by
  intro c
  induction c generalizing W with
  | nil => exact ⟨Nat.le_refl _, fun l h => nomatch h⟩
  | cons x c ih =>
    obtain ⟨h1, h2⟩ := ih (W ++ List.replicate (sp x - W.length) [])
    rw [List.length_append, List.length_replicate] at h1
    refine ⟨?_, fun l hl => ?_⟩
    · show W.length ≤ (gw (W ++ List.replicate (sp x - W.length) []) c).length
      omega
    · show sp l ≤ (gw (W ++ List.replicate (sp x - W.length) []) c).length
      rcases List.mem_cons.1 hl with rfl | hl
      · omega
      · exact h2 l hl
/-- One more clause in a list. -/
def addW (W : List (List Int)) (k : Nat) (r : Int) : List (List Int) := W.set k (W.getD k [] ++ [r])
theorem addW_len (W : List (List Int)) (k : Nat) (r : Int) : (addW W k r).length = W.length := by unfold addW; simp
theorem gw_lists {W : List (List Int)} {N : Nat} : ∀ {c : List Int}, (∀ L ∈ W, L.length ≤ N) → ∀ L ∈ gw W c, L.length ≤ N := by
  intro c
  induction c generalizing W with
  | nil => exact fun h => h
  | cons x c ih =>
    intro h
    refine ih (W := W ++ List.replicate (sp x - W.length) []) (fun L hL => ?_)
    rcases List.mem_append.1 hL with hL | hL
    · exact h L hL
    · rw [List.eq_of_mem_replicate hL]; simp
theorem addW_lists {W : List (List Int)} {N k : Nat} {r : Int} (h : ∀ L ∈ W, L.length ≤ N) : ∀ L ∈ addW W k r, L.length ≤ N + 1 := by
  intro L hL
  unfold addW at hL
  rcases List.mem_or_eq_of_mem_set hL with hL | rfl
  · exact Nat.le_succ_of_le (h L hL)
  · rw [List.length_append, List.getD_eq_getElem?_getD]
    cases e : W[k]? with
    | none => simp
    | some y => simp; exact h y (List.mem_of_getElem? e)
theorem cd_sp (l : Int) : cd l < sp l := by unfold cd sp; split <;> omega
theorem St.watches {w : World} {F : Nat → Prop} {s mo : Nat} {va vb vs vw : Value} {us : List Value} {A B S : List Int} {W : List (List Int)} (h : St w F s mo va vb vs vw us A B S W) {C : Nat} (hC : C < W.length) : ∃ R nw cw cr u, vw = .slice (some ⟨R, 0, none⟩) us.length cw ∧ nw = us.length ∧ w.heap[R]? = some (.cells cr 27) ∧ us[C]? = some u ∧ cr[C]? = some u ∧ Is' w 0 u (W.getD C []) ∧ R < w.heap.size := by
  have hl := h.len
  have hCu : C < us.length := by omega
  rcases h.row.2 with ⟨e, h0⟩ | ⟨R, cap, cur, e, hb, hg, hc, hm, hs, ht⟩
  · omega
  · refine ⟨R, us.length, cap, cur, us[C], e, rfl, hg, List.getElem?_eq_getElem hCu, ?_, ?_, (Array.getElem?_eq_some_iff.1 hg).1⟩
    · have h2 : (cur.toList.take (us.length * 1))[C]? = some us[C] := by rw [ht]; exact List.getElem?_eq_getElem hCu
      rw [List.getElem?_take_of_lt (by omega)] at h2
      simpa using h2
    · have := h.fam.row (C + 3) us[C] (W.getD C []) (by simp [hCu]) (by
        rw [List.getD_eq_getElem?_getD]
        simp [List.getElem?_eq_getElem hC])
      exact this
set_option maxRecDepth 20000 in
set_option maxHeartbeats 25600000 in
theorem watch_any {w : World} {F : Nat → Prop} {s mo Bu ref : Nat} {A B S : List Int} {W : List (List Int)} (h : SX w F s mo A B S W) {u : Value} {c : List Int} (hu : Is' w Bu u c) (hub : ∀ b, u.ownBlock = some b → ¬ F b) (hc : c.length ≤ 300000) (hcl : ∀ l ∈ c, sm l) (hW : W.length ≤ 1000000) (hS : S.length ≤ 1000000) (hLn : ∀ L ∈ W, L.length ≤ 1000000) (hrf : ref ≤ 1000000) :
    Calls Try.prog 30 #[.pointer (some ⟨s, 0, none⟩), .int .i64 (ref : Int), u] w fun e w' => e = .returned (.tuple #[]) ∧ ∃ F', SX w' F' s mo A B (if c.length < 2 then S ++ [(ref : Int)] else S) (if c.length < 2 then gw W c else addW (addW (gw W c) (cd (c.getD 0 0)) ref) (cd (c.getD 1 0)) ref) ∧ Ch w w' F F' := by
  obtain ⟨ti, ht0, hz0, hz1, hz2⟩ := info_any infoInt
  have HI0 : Hid _ := (⟨ht0, hz0, hz1, hz2⟩ : Try.prog.info? 3 = some ti ∧ ti.zero = some (.int .i64 0) ∧ ti.size = 1 ∧ ti.bytes = 8)
  clear ht0 hz0 hz1 hz2
  have HU : Hid (Is' w Bu u c) := hu
  obtain ⟨au0, cu0, hue⟩ := own_slice hu
  have H : Hid (SX w F s mo A B S W) := h
  have HUB : Hid _ := hub
  have HCL : Hid _ := hcl
  have HLN : Hid _ := hLn
  obtain ⟨n, hn⟩ : ∃ n, n = c.length := ⟨_, rfl⟩
  have HN : Hid _ := hn
  rw [← hn] at hue hc ⊢
  subst hue
  obtain ⟨S', hS'⟩ : ∃ S', S' = (if n < 2 then S ++ [(ref : Int)] else S) := ⟨_, rfl⟩
  obtain ⟨W', hW'⟩ : ∃ W', W' = (if n < 2 then gw W c else addW (addW (gw W c) (cd (c.getD 0 0)) ref) (cd (c.getD 1 0)) ref) := ⟨_, rfl⟩
  rw [← hS', ← hW']
  have HS' : Hid _ := hS'
  have HW' : Hid _ := hW'
  clear h hu hub hn hcl hS' hW' hLn
  go_enter Try.func30, Try.ntmps30
  go_wp2_with fail
  go_loopw [12] (fun i wr => ∃ k : Nat, k ≤ n ∧ i = .int .i64 (k : Int) ∧ ∃ F', Hid (SX wr F' s mo A B S (gw W (c.take k)) ∧ Ch w wr F F' ∧ Is' wr Bu (.slice au0 n cu0) c)) (fun i wr => n - (intOf i).toNat)
  case atStart => exact ⟨0, Nat.zero_le _, rfl, F, H.out, Ch.refl _ _, HU.out⟩
  case round =>
    obtain ⟨k, hk, rfl, F', hH⟩ := hrel
    by_cases hlt : k < n
    · have hkc : k < c.length := by rw [← HN.out]; exact hlt
      obtain ⟨g0, o0, rfl, hck⟩ := (Is'.sr hH.out.2.2).at' (Below.refl _ _) (k := k) hkc
      obtain ⟨l, hl⟩ : ∃ l, l = c.getD k 0 := ⟨_, rfl⟩
      rw [← hl] at hck
      have hlm : sm l := HCL.out l (by rw [hl]; exact getD_mem hkc)
      have HGW : Hid (gw W (c.take (k + 1)) = gw W (c.take k) ++ List.replicate (sp l - (gw W (c.take k)).length) []) := by
        unfold Hid
        rw [List.take_add_one, List.getElem?_eq_getElem hkc, hl, List.getD_eq_getElem?_getD, List.getElem?_eq_getElem hkc]
        exact gw_snoc W (c.take k) c[k]
      have HMR : Hid _ := makeRoom_any hH.out.1 hlm (gw_len W _ (fun y hy => HCL.out y (List.mem_of_mem_take hy)) hW)
      clear hl hkc
      go_wp2_with fail
      refine Calls.mono HMR.out ?_
      rintro ev w1 ⟨rfl, F1, hX1, hC1⟩
      have HX1 : Hid _ := hX1
      have HC1 : Hid _ := hC1
      clear hX1 hC1
      go_wp2_with fail
      have hub2 : ∀ b, (Value.slice (some ⟨g0, o0, none⟩) n cu0).ownBlock = some b → ¬ F' b := fun b hb hf => by
        rcases hH.out.2.1.foot b hf with h1 | ⟨h1, h2⟩
        · exact HUB.out b hb h1
        · have := (World.ownsRow.lt HU.out b hb).2
          omega
      refine ⟨⟨k + 1, by omega, by go_num, F1, by rw [HGW.out]; exact HX1.out, hH.out.2.1.trans HC1.out, row_own hH.out.2.2 (fun b hb => HC1.out.block b (World.ownsRow.lt hH.out.2.2 b hb).2 (hub2 b hb))⟩, by simp [intOf]; omega⟩
    · obtain rfl : k = n := by omega
      have HX : Hid (SX wr F' s mo A B S (gw W c)) := by
        have := hH.out.1
        rw [HN.out, List.take_length] at this
        exact this
      have HCH : Hid (Ch w wr F F') := hH.out.2.1
      have HUR : Hid (Is' wr Bu (.slice au0 k cu0) c) := hH.out.2.2
      have HUB2 : Hid (∀ b, (Value.slice au0 k cu0).ownBlock = some b → ¬ F' b) := fun b hb hf => by
        rcases hH.out.2.1.foot b hf with h1 | ⟨h1, h2⟩
        · exact HUB.out b hb h1
        · have := (World.ownsRow.lt HU.out b hb).2
          omega
      have HGL := gw_len W c HCL.out hW
      clear hH
      by_cases h2 : k < 2
      · rw [if_pos h2] at HS' HW'
        obtain ⟨va, vb, vs, vw, us, hSt⟩ := HX.out
        have HS : Hid (St wr F' s mo va vb vs vw us A B S (gw W c)) := hSt
        have hsl := hSt.lt
        have c3 : wr.cell? ⟨s, 3, none⟩ = some vs := cell_of hSt.hd 3 rfl
        have hkI : (k : Int) < 2 := by omega
        clear hSt
        go_wp2_with (at_builtin; refine wpList_app rfl _ _ rfl 0 vs S rfl (row_kept HS.out.rs (fun _ hq => heap_alloc_old _ _ hq)) _ [(ref : Int)] rfl (sr_one wr ref) (by simp; omega) (Nat.zero_le _) ?_; intro v1 w2 hown hgrow hat; obtain ⟨a1, m1, k1, hv1, HM1⟩ := own_sl hown; subst hv1; have HAP : Hid _ := (ap_set (f := 3) HS.out.hd (HS.out.nos (i := 2) rfl) (grown_of hgrow) hown (at_of hat)); have hd2 : w2.heap[s]? = _ := ((grown_of hgrow).block s hsl (fun e => HS.out.nos (i := 2) rfl e.symm)).trans HS.out.hd; have c32 : w2.cell? ⟨s, 3, none⟩ = some vs := cell_of hd2 3 rfl; have f32 : w2.frozen? ⟨s, 3, none⟩ = false := (by simp [World.frozen?, hd2]); clear hown hgrow hat hd2)
        refine bodyPost_ret (results_none rfl _ _ _) rfl ?_
        obtain ⟨q1, q2⟩ := HS.out.short HAP.out
        rw [HS'.out, HW'.out]
        exact ⟨rfl, _, ⟨_, _, _, _, _, q1⟩, HCH.out.trans q2⟩
      · rw [if_neg h2] at HS' HW'
        have hkI : ¬ (k : Int) < 2 := by omega
        have hk0 : 0 < c.length := by rw [← HN.out]; omega
        have hk1 : 1 < c.length := by rw [← HN.out]; omega
        obtain ⟨l0, hl0⟩ : ∃ l, l = c.getD 0 0 := ⟨_, rfl⟩
        obtain ⟨l1, hl1⟩ : ∃ l, l = c.getD 1 0 := ⟨_, rfl⟩
        have hm0 : sm l0 := HCL.out l0 (by rw [hl0]; exact getD_mem hk0)
        have hm1 : sm l1 := HCL.out l1 (by rw [hl1]; exact getD_mem hk1)
        have hp0 : cd l0 < (gw W c).length := Nat.lt_of_lt_of_le (cd_sp l0) ((gw_sp W c).2 l0 (by rw [hl0]; exact getD_mem hk0))
        have hp1 : cd l1 < (gw W c).length := Nat.lt_of_lt_of_le (cd_sp l1) ((gw_sp W c).2 l1 (by rw [hl1]; exact getD_mem hk1))
        rw [← hl0, ← hl1] at HW'
        have HL0 : Hid _ := hl0
        have HL1 : Hid _ := hl1
        have HLN2 : Hid (∀ L ∈ gw W c, L.length ≤ 1000000) := gw_lists HLN.out
        clear hl0 hl1 hk0 hk1
        go_wp2_with fail
        go_loopw [33] (fun i wr => ∃ j : Nat, j ≤ 2 ∧ i = .int .i64 (j : Int) ∧ ∃ F2 W2, Hid (SX wr F2 s mo A B S W2 ∧ Ch w wr F F2 ∧ Is' wr Bu (.slice au0 k cu0) c ∧ W2 = (if j = 0 then gw W c else if j = 1 then addW (gw W c) (cd l0) ref else addW (addW (gw W c) (cd l0) ref) (cd l1) ref))) (fun i wr => 2 - (intOf i).toNat)
        case atStart => exact ⟨0, Nat.zero_le _, rfl, F', gw W c, HX.out, HCH.out, HUR.out, rfl⟩
        case round =>
          obtain ⟨j, hj, rfl, F2, W2, hH⟩ := hrel
          by_cases hlt2 : j < 2
          · obtain ⟨l, hl, hlm, hlp, hlx, hlast⟩ : ∃ l, l = c.getD j 0 ∧ sm l ∧ cd l < W2.length ∧ (∀ L ∈ W2, L.length ≤ 1000001) ∧ (if j + 1 = 0 then gw W c else if j + 1 = 1 then addW (gw W c) (cd l0) ref else addW (addW (gw W c) (cd l0) ref) (cd l1) ref) = addW W2 (cd l) ref := by
              have e := hH.out.2.2.2
              match j, hlt2 with
              | 0, _ =>
                rw [if_pos rfl] at e
                exact ⟨l0, HL0.out, hm0, by rw [e]; exact hp0, by rw [e]; exact fun L hL => Nat.le_succ_of_le (HLN2.out L hL), by rw [e]; rfl⟩
              | 1, _ =>
                rw [if_neg (by decide), if_pos rfl] at e
                refine ⟨l1, HL1.out, hm1, by rw [e, addW_len]; exact hp1, ?_, by rw [e]; rfl⟩
                rw [e]
                exact addW_lists HLN2.out
            have hkc : j < c.length := by rw [← HN.out]; omega
            obtain ⟨g0, o0, rfl, hck⟩ := (Is'.sr hH.out.2.2.1).at' (Below.refl _ _) (k := j) hkc
            rw [← hl] at hck
            have HLAST : Hid _ := hlast
            obtain ⟨va, vb, vs, vw, us, hSt⟩ := hH.out.1
            obtain ⟨R, nw, cw, cr, u, hvw, hnw, hcr, huC, hcC, hIu, hRz⟩ := hSt.watches hlp
            have hwl : us.length = W2.length := hSt.len
            rw [← hnw] at hvw
            subst hvw
            have hnW : nw = (gw W c).length := by
              rw [hnw, hwl]
              have e := hH.out.2.2.2
              rw [e]
              split
              · rfl
              · split <;> simp [addW_len]
            obtain ⟨C, hC⟩ : ∃ C, C = cd l := ⟨_, rfl⟩
            have HCO : Hid (∀ wx, Calls Try.prog 43 #[.int .i64 l] wx fun e w' => e = .returned (.int .u64 (C : Int)) ∧ w' = wx) := fun wx => by rw [hC]; exact code_any hlm wx
            rw [← hC] at hlp huC hcC hIu HLAST
            have hCn : (C : Int) < (nw : Int) := by rw [hnw, hwl]; omega
            have hCw : nw ≤ 1000000 := by rw [hnW]; exact HGL
            obtain ⟨L0, hL0⟩ : ∃ L, L = W2.getD C [] := ⟨_, rfl⟩
            rw [← hL0] at hIu
            have hL0l : L0.length ≤ 1000001 := hlx L0 (by rw [hL0, List.getD_eq_getElem?_getD, List.getElem?_eq_getElem hlp]; exact List.getElem_mem hlp)
            obtain ⟨au, cu, hue⟩ := own_slice hIu
            obtain ⟨nu, hnu⟩ : ∃ n, n = L0.length := ⟨_, rfl⟩
            rw [← hnu] at hue hL0l
            subst hue
            have hu3 : (va :: vb :: vs :: us)[C + 3]? = some (Value.slice au nu cu) := by simpa using huC
            have HSZ : Hid (St wr F2 s mo va vb vs (.slice (some ⟨R, 0, none⟩) nw cw) us A B S W2) := hSt
            have HHD : Hid (wr.heap[s]? = some (.cells #[.int .i64 (mo : Int), va, vb, vs, .slice (some ⟨R, 0, none⟩) nw cw] 54)) := hSt.hd
            have HCR : Hid (wr.heap[R]? = some (.cells cr 27)) := hcr
            have HCC : Hid (cr[C]? = some (.slice au nu cu)) := hcC
            have HW : Hid (wr.ownsRow 0 3 1 (.slice au nu cu) nu (L0.map (Value.int .i64))) := by unfold Hid; rw [hnu]; rw [hnu] at hIu; exact hIu
            have HBV : Hid (∀ k, (Value.slice au nu cu).ownBlock = some k → k < wr.heap.size) := fun k hk => (World.ownsRow.lt hIu k hk).2
            have HVR : Hid ((Value.slice au nu cu).ownBlock ≠ some R) := hSt.now hu3 rfl
            have hRv : some R ≠ (Value.slice au nu cu).ownBlock := fun e => HVR.out e.symm
            have hsv : some s ≠ (Value.slice au nu cu).ownBlock := fun e => hSt.nos hu3 e.symm
            have hsR : s ≠ R := fun e => hSt.ws (by rw [e]; rfl)
            have hsz : s < wr.heap.size := hSt.lt
            have HNU : Hid _ := hnu
            have HNW : Hid (nw = us.length) := hnw
            have HUC : Hid (us[C]? = some (.slice au nu cu)) := huC
            have HL00 : Hid (L0 = W2.getD C []) := hL0
            have hjI : (j : Int) < 2 := by omega
            have hjk : (j : Int) < (k : Int) := by omega
            clear hl hlx hlast hSt hcr huC hcC hIu hwl hnW hC hL0 hnu hnw hu3 hkc
            go_wp2_with fail
            refine Calls.mono (HCO.out _) ?_
            rintro ev w1 ⟨rfl, hw1⟩
            rw [hw1]
            clear hw1 w1
            obtain ⟨wz, hwz⟩ : ∃ wz, wz = wr := ⟨_, rfl⟩
            subst hwz
            go_wp2_with fail
            refine wp_named fun a0 ha0 => ?_
            have o0 := old_at ha0 (t := 0) rfl
            have o1 := old_at ha0 (t := 1) rfl
            have o9 := old_at ha0 (t := 9) rfl
            refine wp_region_lin (S := BSt wz 0 3 1 (.slice au nu cu) nu (L0.map (Value.int .i64)) [.int .i64 (ref : Int)] [] R C cr 27 11 13 14 99 16) [13, 14] (fun _ => 0) (by kernel_rfl) (by kernel_rfl) (by rw [← ha0]; kernel_rfl) (BSt.start (x := wz.drew) ⟨rfl, rfl, rfl, rfl⟩) ?_
            refine' LinAll.cons _ ?_ ?_ ?_
            rotate_left 1
            · intro g L a x hLi haft hS hK
              have t0 := (hK.old 0 (by kernel_rfl)).trans o0
              (try dsimp only at t0)
              refine go_in (wanted_all rfl) ?_
              intro K hk
              clear haft hK hLi
              go_simp
              exact hk.out g x (fun _ _ => rfl) (hS.go rfl)
            · intro i hi; exact Or.inl (fun _ _ _ => rfl)
            refine' LinAll.cons _ ?_ ?_ ?_
            rotate_left 1
            · intro g L a x hLi haft hS hK
              have t41 := hK.new 0 0 _ 41 _ rfl rfl rfl (by kernel_rfl) (waits haft 0 (by kernel_rfl))
              (try dsimp only at t41)
              refine go_in (wanted_all rfl) ?_
              intro K hk
              clear haft hK hLi
              go_simp
              exact hk.out g x (fun _ _ => rfl) (hS.go rfl)
            · intro i hi; exact Or.inl (fun _ _ _ => rfl)
            refine' LinAll.cons _ ?_ ?_ ?_
            rotate_left 1
            · intro g L a x hLi haft hS hK
              have t42 := hK.new 1 0 _ 42 _ rfl rfl rfl (by kernel_rfl) (waits haft 1 (by kernel_rfl))
              (try dsimp only at t42)
              refine go_in (wanted_all rfl) ?_
              intro K hk
              clear haft hK hLi
              go_simp
              exact hk.out g x (fun _ _ => rfl) (hS.go rfl)
            · intro i hi; exact Or.inl (fun _ _ _ => rfl)
            refine' LinAll.cons _ ?_ ?_ ?_
            rotate_left 1
            · intro g L a x hLi haft hS hK
              have t43 := hK.new 2 0 _ 43 _ rfl rfl rfl (by kernel_rfl) (waits haft 2 (by kernel_rfl))
              (try dsimp only at t43)
              have c1 : x.cell? ⟨s, 4, none⟩ = some (.slice (some ⟨R, 0, none⟩) nw cw) := cell_of ((hS.kp s hsz (fun _ => hsv) (fun _ => hsR)).trans HHD.out) 4 rfl
              refine go_in (wanted_all rfl) ?_
              intro K hk
              clear haft hK hLi
              go_simp
              exact hk.out g x (fun _ _ => rfl) (hS.go rfl)
            · intro i hi; exact Or.inl (fun _ _ _ => rfl)
            refine' LinAll.cons _ ?_ ?_ ?_
            rotate_left 1
            · intro g L a x hLi haft hS hK
              have t9 := (hK.old 9 (by kernel_rfl)).trans o9
              (try dsimp only at t9)
              refine go_in (wanted_all rfl) ?_
              intro K hk
              clear haft hK hLi
              go_simp
              exact hk.out g x (fun _ _ => rfl) (hS.go rfl)
            · intro i hi; exact Or.inl (fun _ _ _ => rfl)
            refine' LinAll.cons _ ?_ ?_ ?_
            rotate_left 1
            · intro g L a x hLi haft hS hK
              have t0 := (hK.old 0 (by kernel_rfl)).trans o0
              (try dsimp only at t0)
              refine go_in (wanted_all rfl) ?_
              intro K hk
              clear haft hK hLi
              go_simp
              exact hk.out g x (fun _ _ => rfl) (hS.go rfl)
            · intro i hi; exact Or.inl (fun _ _ _ => rfl)
            refine' LinAll.cons _ ?_ ?_ ?_
            rotate_left 1
            · intro g L a x hLi haft hS hK
              have t46 := hK.new 5 0 _ 46 _ rfl rfl rfl (by kernel_rfl) (waits haft 5 (by kernel_rfl))
              (try dsimp only at t46)
              refine go_in (wanted_all rfl) ?_
              intro K hk
              clear haft hK hLi
              go_simp
              exact hk.out g x (fun _ _ => rfl) (hS.go rfl)
            · intro i hi; exact Or.inl (fun _ _ _ => rfl)
            refine' LinAll.cons _ ?_ ?_ ?_
            rotate_left 1
            · intro g L a x hLi haft hS hK
              have t47 := hK.new 6 0 _ 47 _ rfl rfl rfl (by kernel_rfl) (waits haft 6 (by kernel_rfl))
              (try dsimp only at t47)
              refine go_in (wanted_all rfl) ?_
              intro K hk
              clear haft hK hLi
              go_simp
              exact hk.out g x (fun _ _ => rfl) (hS.go rfl)
            · intro i hi; exact Or.inl (fun _ _ _ => rfl)
            refine' LinAll.cons _ ?_ ?_ ?_
            rotate_left 1
            · intro g L a x hLi haft hS hK
              have t48 := hK.new 7 0 _ 48 _ rfl rfl rfl (by kernel_rfl) (waits haft 7 (by kernel_rfl))
              (try dsimp only at t48)
              have c1 : x.cell? ⟨s, 4, none⟩ = some (.slice (some ⟨R, 0, none⟩) nw cw) := cell_of ((hS.kp s hsz (fun _ => hsv) (fun _ => hsR)).trans HHD.out) 4 rfl
              refine go_in (wanted_all rfl) ?_
              intro K hk
              clear haft hK hLi
              go_simp
              exact hk.out g x (fun _ _ => rfl) (hS.go rfl)
            · intro i hi; exact Or.inl (fun _ _ _ => rfl)
            refine' LinAll.cons _ ?_ ?_ ?_
            rotate_left 1
            · intro g L a x hLi haft hS hK
              have t9 := (hK.old 9 (by kernel_rfl)).trans o9
              (try dsimp only at t9)
              refine go_in (wanted_all rfl) ?_
              intro K hk
              clear haft hK hLi
              go_simp
              exact hk.out g x (fun _ _ => rfl) (hS.go rfl)
            · intro i hi; exact Or.inl (fun _ _ _ => rfl)
            refine' LinAll.cons _ ?_ ?_ ?_
            rotate_left 1
            · intro g L a x hLi haft hS hK
              have t49 := hK.new 8 1 _ 49 _ rfl rfl rfl (by kernel_rfl) (waits haft 8 (by kernel_rfl))
              have t50 := hK.new 9 0 _ 50 _ rfl rfl rfl (by kernel_rfl) (waits haft 9 (by kernel_rfl))
              (try dsimp only at t49 t50)
              refine go_in (wanted_all rfl) ?_
              intro K hk
              clear haft hK hLi
              go_simp
              exact hk.out g x (fun _ _ => rfl) (hS.go rfl)
            · intro i hi; exact Or.inl (fun _ _ _ => rfl)
            refine' LinAll.cons _ ?_ ?_ ?_
            rotate_left 1
            · intro g L a x hLi haft hS hK
              have t51 := hK.new 10 0 _ 51 _ rfl rfl rfl (by kernel_rfl) (waits haft 10 (by kernel_rfl))
              (try dsimp only at t51)
              obtain ⟨na, ns⟩ := hS.noa hLi
              have c1 : x.cell? ⟨R, C, none⟩ = some (.slice au nu cu) := cell_of ((hS.kp R hRz (fun _ => hRv) (fun e => by rw [ns] at e; cases e)).trans HCR.out) C HCC.out
              clear na ns
              refine go_in (wanted_all rfl) ?_
              intro K hk
              clear haft hK hLi
              go_simp
              exact hk.out g x (fun _ _ => rfl) (hS.go rfl)
            · intro i hi; exact Or.inl (fun _ _ _ => rfl)
            refine' LinAll.cons _ ?_ ?_ ?_
            rotate_left 1
            · intro g L a x hLi haft hS hK
              have t1 := (hK.old 1 (by kernel_rfl)).trans o1
              (try dsimp only at t1)
              refine go_in (wanted_all rfl) ?_
              intro K hk
              clear haft hK hLi
              go_simp
              exact hk.out g x (fun _ _ => rfl) (hS.go rfl)
            · intro i hi; exact Or.inl (fun _ _ _ => rfl)
            refine LinAll.cons (fun g => .slice (some ⟨g 13, 0, none⟩) 1 1) ?_ ?_ ?_
            · intro g L a x hLi haft hS hK
              have t53 := hK.new 12 0 _ 53 _ rfl rfl rfl (by kernel_rfl) (waits haft 12 (by kernel_rfl))
              (try dsimp only at t53)
              refine go_in (wanted_all rfl) ?_
              intro K hk
              clear haft hK
              go_simp
              have hq := hk.out (updG g 13 x.heap.size) _ (updG_al (by rfl)) (hS.built hLi (by decide))
              dsimp only at hq
              rw [updG_eq] at hq
              exact hq
            · intro i hi; simp only [List.mem_cons, List.not_mem_nil, or_false] at hi; rcases hi with rfl | rfl; exact Or.inr (by kernel_rfl); exact Or.inl (fun g g' h => by simp only [h 13 (by decide)])
            refine LinAll.cons (fun g => sl (nu + 1) (g 14)) ?_ ?_ ?_
            · intro g L a x hLi haft hS hK
              have t52 := hK.new 11 2 _ 52 _ rfl rfl rfl (by kernel_rfl) (waits haft 11 (by kernel_rfl))
              have t54 := hK.new 13 0 _ 54 _ rfl rfl rfl (by kernel_rfl) (waits haft 13 (by kernel_rfl))
              (try dsimp only at t52 t54)
              have hLl := waits haft 11 (by kernel_rfl)
              have hLb := waits haft 13 (by kernel_rfl)
              have his : L 16 = false := by
                cases e : L 16
                · rfl
                · rw [hS.d3 e] at hLi; cases hLi
              have hrow := row_own HW.out (fun k hk => hS.kp k (HW.out.lt k hk).2 (fun e => by rw [hLi] at e; cases e) (fun e => by rw [his] at e; cases e))
              have hsb := hS.sb hLb hLi
              refine go_in (wanted_all rfl) ?_
              intro K hk
              refine wp_append_at _ (.tmp 52) (.tmp 54) 27 rfl 0 3 ti _ 1 8 underInts HI0.out.1 HI0.out.2.1 HI0.out.2.2.1 HI0.out.2.2.2 rfl (by decide) _ nu _ (eval_tmp t52) hrow ⟨g 13, 0, none⟩ 1 1 [.int .i64 (ref : Int)] (eval_tmp t54) rfl (fun j u hj => by
                  have e : (⟨g 13, 0, none⟩ : Addr).add j = ⟨g 13, j, none⟩ := by simp [Addr.add]; try (intro hq; exact hq.symm)
                  rw [e]; exact cell_of hsb.1 j (by simpa using hj)) (ones [(ref : Int)]) (by unfold maxLen; omega) (by omega) (by have := hS.siz; omega) ?_
              intro v' y hown hgrow hat
              obtain ⟨p, rfl⟩ := sl_own hown (by omega)
              have hq := hk.out (updG g 14 p) y (updG_al (by rfl)) (hS.app hLl hLb hLi (by decide) HBV.out hgrow hown hat)
              dsimp only at hq
              rw [updG_eq] at hq
              exact hq
            · intro i hi; simp only [List.mem_cons, List.not_mem_nil, or_false] at hi; rcases hi with rfl | rfl; exact Or.inl (fun g g' h => by simp only [h 14 (by decide)]); exact Or.inr (by kernel_rfl)
            refine' LinAll.cons _ ?_ ?_ ?_
            rotate_left 1
            · intro g L a x hLi haft hS hK
              have t44 := hK.new 3 11 _ 44 _ rfl rfl rfl (by kernel_rfl) (waits haft 3 (by kernel_rfl))
              have t45 := hK.new 4 10 _ 45 _ rfl rfl rfl (by kernel_rfl) (waits haft 4 (by kernel_rfl))
              (try dsimp only at t44 t45)
              refine go_in (wanted_all rfl) ?_
              intro K hk
              clear haft hK hLi
              go_simp
              exact hk.out g x (fun _ _ => rfl) (hS.go rfl)
            · intro i hi; exact Or.inl (fun _ _ _ => rfl)
            refine LinAll.cons (fun _ => undef) ?_ ?_ ?_
            · intro g L a x hLi haft hS hK
              have t55 := hK.new 14 1 _ 55 _ rfl rfl rfl (by kernel_rfl) (waits haft 14 (by kernel_rfl))
              have t56 := hK.new 15 0 _ 56 _ rfl rfl rfl (by kernel_rfl) (waits haft 15 (by kernel_rfl))
              (try dsimp only at t55 t56)
              have hLa := waits haft 14 (by kernel_rfl)
              have hh := (hS.kp R hRz (fun _ => hRv) (fun e => by rw [hLi] at e; cases e)).trans HCR.out
              have c1 : x.cell? ⟨R, C, none⟩ = some (.slice au nu cu) := cell_of hh C HCC.out
              have f1 : x.frozen? ⟨R, C, none⟩ = false := by simp [World.frozen?, hh]
              have hnew := hS.store hLa hLi (by decide) HVR.out hRz HCR.out
              unfold sl at t55
              refine go_in (wanted_all rfl) ?_
              intro K hk
              clear haft hK hLi hLa hh
              go_simp
              exact hk.out g _ (fun _ _ => rfl) hnew
            · intro i hi; exact Or.inl (fun _ _ _ => rfl)
            refine LinAll.nil fun g x hS => ?_
            subst ha0
            simp only [Act.put, List.setIfInBounds_toArray, List.set_cons_zero, List.set_cons_succ]
            clear o0 o1 o9
            have HSE : Hid _ := hS
            clear hS
            go_wp2_with fail
            have hS := HSE.out
            rw [HNU.out] at hS
            obtain ⟨e1, e2⟩ := HSZ.out.list (by rw [HNW.out]) HCR.out HUC.out (by rw [HNU.out]; exact hS.ap (by decide) (by decide) (by decide))
            have e3 : W2.set C (L0 ++ [(ref : Int)]) = addW W2 C ref := by rw [HL00.out]; rfl
            rw [e3] at e1
            have hub2 : ∀ b, (Value.slice (some ⟨g0, o0, none⟩) k cu0).ownBlock = some b → ¬ F2 b := fun b hb hf => by
              rcases hH.out.2.1.foot b hf with h1 | ⟨h1, h2⟩
              · exact HUB.out b hb h1
              · have := (World.ownsRow.lt HU.out b hb).2
                omega
            refine ⟨⟨j + 1, by omega, by go_num, _, _, ⟨_, _, _, _, _, e1⟩, hH.out.2.1.trans e2, row_own hH.out.2.2.1 (fun b hb => e2.block b (World.ownsRow.lt hH.out.2.2.1 b hb).2 (hub2 b hb)), HLAST.out.symm⟩, by simp [intOf]; omega⟩
          · obtain rfl : j = 2 := by omega
            rw [show ((2 : Nat) : Int) = 2 from rfl]
            go_wp2_with fail
            go_end0
            have e := hH.out.2.2.2
            rw [if_neg (by decide), if_neg (by decide)] at e
            rw [HS'.out, HW'.out, ← e]
            exact ⟨rfl, F2, hH.out.1, hH.out.2.1⟩
end Go.Proofs.Ytkndjndhjdfhcaa
