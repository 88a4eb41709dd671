/- Contracts (traces): Derive. -/
import Derived.Test.YthdgmkjjpmigeaaTR14
namespace Go.Proofs.Ythdgmkjjpmigeaa
open Go.RowKit
set_option linter.unusedSimpArgs false
set_option linter.unusedVariables false

/-- The clauses of the steps. -/
def derL (G : List (List Int)) : List (List Int) → List (List Int) → Option (List (List Int))
  | D, [] => some D
  | D, F :: L => match resF G D F with
    | none => none
    | some r => derL G (D ++ [r]) L
def derF (G L : List (List Int)) : List (List Int) × Int := match derL G [] L with
  | some D => (D, 0)
  | none => ([], 121)
theorem nodup_sub : ∀ {T S : List Int}, T.Nodup → (∀ x ∈ T, x ∈ S) → T.length ≤ S.length
  | [], _, _, _ => Nat.zero_le _
  | x :: T, S, hn, hs => by
    rw [List.nodup_cons] at hn
    have h1 : x ∈ S := hs x (List.mem_cons_self ..)
    have h2 := nodup_sub (S := S.erase x) hn.2 fun y hy => (List.mem_erase_of_ne (a := y) (b := x) (fun e => hn.1 (by rw [← e]; exact hy))).2 (hs y (List.mem_cons_of_mem _ hy))
    rw [List.length_erase_of_mem h1] at h2
    have := List.length_pos_of_mem h1
    rw [List.length_cons]; omega
/-- A derived clause: literals of U that rise. -/
structure Dc (U d : List Int) : Prop where
  ok : ∀ x ∈ d, okZ x = true
  sub : ∀ x ∈ d, x ∈ U
  up : d.Pairwise (· < ·)
theorem Dc.len {U d : List Int} (h : Dc U d) : d.length ≤ U.length := by
  have hn : d.Nodup := h.up.imp fun {a b} e => by omega
  exact nodup_sub hn h.sub
theorem clF_sub {G D : List (List Int)} {x : Int} {c : List Int} (hD : ∀ d ∈ D, Dc G.flatten d) (h : clF G D x = some c) : (∀ x ∈ c, okZ x = true) ∧ ∀ x ∈ c, x ∈ G.flatten := by
  unfold clF at h
  split at h
  · cases h
  · split at h
    · exact ⟨(hD c (List.mem_of_getElem? h)).ok, (hD c (List.mem_of_getElem? h)).sub⟩
    · split at h
      · rename_i c' hc'
        split at h
        · cases h
        · rename_i hn
          injection h with h
          subst h
          refine ⟨fun x hx => ?_, fun x hx => List.mem_flatten.2 ⟨c', List.mem_of_getElem? hc', hx⟩⟩
          have hn2 : c'.any noL = false := by simpa using hn
          have := List.any_eq_false.1 hn2 x hx
          unfold noL at this
          simpa using this
      · cases h
theorem joinL_dc {U cur c : List Int} {p : Int} (h : Dc U cur) (hc : (∀ x ∈ c, okZ x = true) ∧ ∀ x ∈ c, x ∈ U) : Dc U (joinL cur c p) :=
  ⟨joinL_ok h.ok hc.1, fun x hx => by
    unfold joinL at hx
    rw [setF_mem, List.mem_append] at hx
    rcases hx with e | e
    · exact h.sub x (List.mem_filter.1 e).1
    · exact hc.2 x (List.mem_filter.1 e).1, setF_up _⟩
theorem goF_dc {G D : List (List Int)} (hD : ∀ d ∈ D, Dc G.flatten d) : ∀ {F cur : List Int} {b : Bool} {r : List Int}, Dc G.flatten cur → goF G D cur b F = some r → Dc G.flatten r
  | [], cur, b, r, h, e => by
    rw [goF] at e; injection e with e; rw [← e]; exact h
  | n :: F, cur, b, r, h, e => by
    rw [goF] at e
    split at e
    · cases e
    · rename_i c hc
      have hcs := clF_sub hD hc
      split at e
      · exact goF_dc hD (joinL_dc h hcs) e
      · split at e
        · exact goF_dc hD (joinL_dc h hcs) e
        · cases e
theorem resF_dc {G D : List (List Int)} (hD : ∀ d ∈ D, Dc G.flatten d) {F r : List Int} (e : resF G D F = some r) : Dc G.flatten r := by
  unfold resF at e
  split at e
  · cases e
  · exact goF_dc hD ⟨fun x (hx : x ∈ []) => absurd hx (by simp), fun x (hx : x ∈ []) => absurd hx (by simp), List.Pairwise.nil⟩ e
/-- A store into a block of two slices leaves lists of numbers. -/
theorem Sf.set {w : World} {F : Nat → Prop} {u : Value} {c : List Int} {T : Nat} {a1 a2 : Option Addr} {n1 n2 k1 k2 : Nat} {ty : TypeId} (h : Sf w F u c) (hT : w.heap[T]? = some (.cells #[.slice a1 n1 k1, .slice a2 n2 k2] ty)) (v : Value) : Sf (w.setCell ⟨T, 1, none⟩ v) F u c := by
  obtain ⟨a, k, e, h2⟩ := h.ex
  refine ⟨a, k, e, ?_⟩
  by_cases hc : c = []
  · exact Or.inl hc
  · rcases h2 with h2 | ⟨r, o, h3, h4, h5, h6⟩
    · exact Or.inl h2
    · have hne : r ≠ T := fun e => by
        subst e
        have := h6 0 (List.length_pos_iff.2 hc)
        simp only [World.cell?, hT] at this
        rcases (by omega : o + 0 = 0 ∨ o + 0 = 1 ∨ 2 ≤ o + 0) with e | e | e
        · rw [e] at this; simp at this
        · rw [e] at this; simp at this
        · rw [Array.getElem?_eq_none (by simpa using e)] at this; cases this
      exact Or.inr ⟨r, o, h3, by rw [World.size_setCell]; exact h4, h5, h6.below (heap_setCell_other _ _ _ _ hne)⟩
theorem Ga.set {w : World} {B : Nat} {vd : Value} {D : List (List Int)} {T : Nat} {a1 a2 : Option Addr} {n1 n2 k1 k2 : Nat} (h : Ga 51 w B vd D) (hT : w.heap[T]? = some (.cells #[.slice a1 n1 k1, .slice a2 n2 k2] 72)) (v : Value) : Ga 51 (w.setCell ⟨T, 1, none⟩ v) B vd D := by
  obtain ⟨us, h1, h2, h3⟩ := h.ex
  refine ⟨us, row_far h1 (fun e => ?_), h2, fun i u c hu hc => (h3 i u c hu hc).set hT v⟩
  obtain ⟨cur, q⟩ := row_cur h1 e
  rw [hT] at q
  injection q with q
  injection q with _ q
  exact absurd q (by decide)
theorem Tb.of {w : World} {T : Nat} {vg vd : Value} {G D : List (List Int)} {ty : TypeId} (hT : w.heap[T]? = some (.cells #[vg, vd] ty)) (hG : Lr w vg G) (hD : Lr w vd D) : Tb w T vg vd G D :=
  ⟨cell_of hT 0 rfl, cell_of hT 1 rfl, hG, hD⟩
set_option maxRecDepth 20000 in
set_option maxHeartbeats 12800000 in
theorem derive_any {w : World} {vg vl : Value} {G L : List (List Int)} (hG : Lr w vg G) (hL : Lr w vl L) (gG : G.length + (G.map List.length).sum ≤ 2000) (gL : L.length ≤ 2000) (gLl : ∀ x ∈ L, x.length ≤ 2000 ∧ ∀ y ∈ x, w64 y) :
    Calls Try.prog 21 #[vg, vl] w fun ev w' => ∃ v', ev = .returned (.tuple #[v', .int .i64 (derF G L).2]) ∧ Lr w' v' (derF G L).1 ∧ Below w.heap.size w w' := by
  obtain ⟨ti, ht0, hz0, hz1, hz2⟩ := info_any infoList
  have HI : Hid _ := (⟨ht0, hz0, hz1, hz2⟩ : Try.prog.info? 51 = some ti ∧ ti.zero = _ ∧ ti.size = 1 ∧ ti.bytes = 24)
  clear ht0 hz0 hz1 hz2
  obtain ⟨Z, hZ⟩ : ∃ Z, Z = derF G L := ⟨_, rfl⟩
  rw [← hZ]
  have HZ : Hid _ := hZ
  have HG : Hid _ := hG
  have HL : Hid _ := hL
  have HGB : Hid (G.length + (G.map List.length).sum ≤ 2000 ∧ ∀ x ∈ L, x.length ≤ 2000 ∧ ∀ y ∈ x, w64 y) := ⟨gG, gLl⟩
  obtain ⟨ag, cg, rfl⟩ := hG.out
  obtain ⟨al, cl, rfl⟩ := hL.out
  obtain ⟨ng, hng⟩ : ∃ n, n = G.length := ⟨_, rfl⟩
  obtain ⟨m, hm⟩ : ∃ n, n = L.length := ⟨_, rfl⟩
  rw [← hng] at HG ⊢
  rw [← hm] at HL gL ⊢
  have HN : Hid (m = L.length) := hm
  have HUL : Hid (G.flatten.length ≤ 2000) := by
    unfold Hid; rw [List.length_flatten]; omega
  clear hG hL gG gLl hZ hng hm
  go_enter Try.func21, Try.ntmps21
  go_wp2_with fail
  obtain ⟨T, hT⟩ : ∃ T, T = w.heap.size := ⟨_, rfl⟩
  have HT : Hid _ := hT
  have HW1 : Hid ((w.alloc (.cells #[.slice ag ng cg, .slice none 0 0] 72)).heap[T]? = some (.cells #[.slice ag ng cg, .slice none 0 0] 72) ∧ Below w.heap.size w (w.alloc (.cells #[.slice ag ng cg, .slice none 0 0] 72))) := by
    refine ⟨by rw [hT]; exact heap_alloc_new w _, by go_grown⟩
  rw [← hT]
  clear hT
  go_loopw [15] (fun i wr => ∃ (k : Nat) (D : List (List Int)) (a : Option Addr) (nd c : Nat), k ≤ m ∧ i = .int .i64 (k : Int) ∧ nd ≤ 2000 ∧ Hid (nd = D.length ∧ nd = k ∧ Z = (match derL G D (L.drop k) with | some D => (D, 0) | none => ([], 121)) ∧ wr.heap[T]? = some (.cells #[.slice ag ng cg, .slice a nd c] 72) ∧ Ga 51 wr w.heap.size (.slice a nd c) D ∧ Below w.heap.size w wr ∧ ∀ d ∈ D, Dc G.flatten d)) (fun i wr => m - (intOf i).toNat)
  case atStart => exact ⟨0, [], none, 0, 0, Nat.zero_le _, rfl, by decide, rfl, rfl, HZ.out, HW1.out.1, Ga.nil _ _ _, HW1.out.2, fun x hx => (nomatch hx)⟩
  case round =>
    obtain ⟨k, D, a, nd, c, hk, rfl, hnd, hH⟩ := hrel
    obtain ⟨h1, h2, h3, h4, h5, h6, h7⟩ := hH.out
    have hzw := h6.size
    by_cases hlt : k < m
    · have hltI : (k : Int) < (m : Int) := by omega
      obtain ⟨F, hF⟩ : ∃ F, L[k]? = some F := ⟨_, List.getElem?_eq_getElem (by rw [← HN.out]; exact hlt)⟩
      obtain ⟨r, o, u, rfl, hcu, hSu⟩ := (HL.out.below h6).at' hF
      have hro : r < wr.heap.size := World.block_lt_of_cell? _ _ hcu
      have hTl : T < wr.heap.size := (Array.getElem?_eq_some_iff.1 h4).1
      have hFb := HGB.out.2 F (List.mem_of_getElem? hF)
      have HRE : Hid (∀ wx, Below wr.heap.size wr wx → Calls Try.prog 42 #[.pointer (some ⟨T, 0, none⟩), u] wx fun ev w' => ∃ (u' : Value), ev = .returned (.tuple #[u', .bool (resF G D F).isSome]) ∧ IsSl u' ∧ (∀ r, resF G D F = some r → Is' w' wx.heap.size u' r) ∧ Below wx.heap.size wx w') := fun wx hb => by
        have hgl : ∀ x ∈ G, x.length ≤ 2000 := fun x hx => by have := len_sum hx; have := HGB.out.1; omega
        exact resolvent_any (Tb.of ((hb.block T hTl).trans h4) ((HG.out.below h6).below hb) (h5.below hb).lr) (by have := HGB.out.1; omega) (by omega) hgl (fun d hd => ⟨(h7 d hd).ok, Nat.le_trans (h7 d hd).len HUL.out⟩) (hSu.below hb) hFb.1 hFb.2
      have HST : Hid (Z = (match derL G D (F :: L.drop (k + 1)) with | some D => (D, 0) | none => ([], 121))) := by
        have e : L.drop k = F :: L.drop (k + 1) := by
          obtain ⟨hkl, e⟩ := List.getElem?_eq_some_iff.1 hF
          rw [← e]; exact List.drop_eq_getElem_cons hkl
        unfold Hid; rw [h3, e]
      obtain ⟨au, nu, ku, hue, -⟩ := hSu.sl
      subst hue
      obtain ⟨R, hR⟩ : ∃ R, R = resF G D F := ⟨_, rfl⟩
      rw [← hR] at HRE
      have HRR : Hid _ := hR
      clear h1 h2 h3 h4 h5 h6 h7 hF hSu hFb hR
      go_wp2_with fail
      refine Calls.mono (HRE.out _ (by go_grown)) ?_
      rintro ev w1 ⟨u', rfl, hsl, hIr, hb1⟩
      have HB1 : Hid (Below wr.heap.size wr w1) := ((Below.refl wr.heap.size wr).alloc (Nat.le_refl _) _).trans (hb1.mono (by rw [size_alloc']; omega))
      obtain ⟨a', n', k', hu'⟩ := hsl.ex
      subst hu'
      cases R with
      | none =>
        have HZZ : Hid (Z = ([], 121)) := by unfold Hid; rw [HST.out, derL, ← HRR.out]
        clear hIr hb1 HRE
        go_wp2_with fail
        go_ret2
        rw [HZZ.out]
        exact ⟨_, rfl, ⟨_, _, rfl, Or.inl rfl⟩, hH.out.2.2.2.2.2.1.trans (HB1.out.mono hzw)⟩
      | some rr =>
        have HIR : Hid (Is' w1 (wr.heap.size + 1) (.slice a' n' k') rr) := by
          have := hIr rr rfl
          rw [size_alloc'] at this; exact this
        have HZN : Hid (Z = (match derL G (D ++ [rr]) (L.drop (k + 1)) with | some D => (D, 0) | none => ([], 121))) := by unfold Hid; rw [HST.out, derL, ← HRR.out]
        have HDC : Hid (Dc G.flatten rr) := resF_dc hH.out.2.2.2.2.2.2 HRR.out.symm
        have HT1 : Hid (w1.heap[T]? = some (.cells #[.slice ag ng cg, .slice a nd c] 72)) := (HB1.out.block T hTl).trans hH.out.2.2.2.1
        have HG1 : Hid (Ga 51 w1 w.heap.size (.slice a nd c) D) := hH.out.2.2.2.2.1.below HB1.out
        have HU1 : Hid (Sf w1 (own (.slice a nd c)) (.slice a' n' k') rr) := HIR.out.sf fun q hq => by have := (hH.out.2.2.2.2.1.low q hq).2; omega
        have HBW : Hid (Below w.heap.size w w1) := hH.out.2.2.2.2.2.1.trans (HB1.out.mono hzw)
        have ct1 : w1.cell? ⟨T, 1, none⟩ = some (.slice a nd c) := cell_of HT1.out 1 rfl
        have hT1l : T < w1.heap.size := (Array.getElem?_eq_some_iff.1 HT1.out).1
        obtain ⟨us, hus, husl, hu3⟩ := HG1.out.ex
        have HUX : Hid (∀ (i : Nat) u c', us[i]? = some u → D[i]? = some c' → Sf w1 (own (.slice a nd c)) u c') := hu3
        have HUS : Hid (w1.ownsRow w.heap.size 51 1 (.slice a nd c) nd us ∧ us.length = nd) := by
          have e1 : us.length = nd := by rw [husl, hH.out.1]
          exact ⟨by rw [← e1]; exact e1 ▸ hus, e1⟩
        have hz1 := HBW.out.size
        clear hIr hb1 HRE hus husl hu3
        go_wp2_with (at_builtin; refine wpList_append_own_at _ rfl _ _ 22 rfl w.heap.size 51 ti (.slice none 0 0) 1 24 underLists HI.out.1 HI.out.2.1 HI.out.2.2.1 HI.out.2.2.2 rfl (by decide) (.slice a nd c) nd us rfl (row_kept HUS.out.1 (fun _ hq => heap_alloc_old _ _ hq)) ⟨w1.heap.size, 0, none⟩ 1 1 [.slice a' n' k'] rfl rfl (cell_one_new _ _ _) (by intro y hy; rw [List.mem_singleton.1 hy]; rfl) (by unfold maxLen; omega) (by omega) (by rw [size_alloc']; omega) ?_; intro v4 w4 hown hgrow hnil hat; have HOW : Hid _ := And.intro hown (And.intro hgrow hat); obtain ⟨r8, k8, hv8⟩ := app_slice hown; subst hv8; have hg4 := grown_of hgrow; have hT4 : w4.heap[T]? = some (.cells #[.slice ag ng cg, .slice a nd c] 72) := (hg4.block T hT1l (fun e => (by obtain ⟨cur, q⟩ := row_cur HUS.out.1 e.symm; rw [HT1.out] at q; injection q with q; injection q with _ q; exact absurd q (by decide)))).trans HT1.out; have ct4 : w4.cell? ⟨T, 1, none⟩ = some (.slice a nd c) := cell_of hT4 1 rfl; have cf4 : w4.frozen? ⟨T, 1, none⟩ = false := (by simp [World.frozen?, hT4]); have HT4 : Hid _ := hT4; clear hown hgrow hnil hat hg4 hT4)
        obtain ⟨hown, hgrow, hat⟩ := HOW.out
        have hG4 : Ga 51 w4 w.heap.size (.slice (some ⟨r8, 0, none⟩) (nd + 1) k8) (D ++ [rr]) := Ga.app (by rw [HUS.out.2]; exact hH.out.1) HUX.out HU1.out hgrow (by rw [HUS.out.2]; exact hown) hat
        have hb4 : Below w.heap.size w w4 := low_grown HBW.out (by omega) hgrow (fun q e => (HUS.out.1.lt q e).1)
        have hT4 := HT4.out
        have hbT : w.heap.size ≤ T := by rw [HT.out]; exact Nat.le_refl _
        refine ⟨⟨k + 1, D ++ [rr], some ⟨r8, 0, none⟩, nd + 1, k8, by omega, by go_num, ?_, ?_, ?_, HZN.out, ?_, hG4.set hT4 _, ?_, ?_⟩, by simp [intOf]; omega⟩
        · have := hH.out.2.1; omega
        · rw [List.length_append]; have := hH.out.1; simp; omega
        · have := hH.out.2.1; omega
        · rw [heap_setCell_same _ _ _ _ _ _ hT4]; rfl
        · exact ⟨hb4.os, hb4.tape, hb4.output, by rw [World.size_setCell]; exact hb4.size, fun q hq => (heap_setCell_other _ _ _ _ (show q ≠ T by omega)).trans (hb4.block q hq)⟩
        · intro d hd
          rcases List.mem_append.1 hd with e | e
          · exact hH.out.2.2.2.2.2.2 d e
          · rw [List.mem_singleton.1 e]; exact HDC.out
    · obtain rfl : k = m := by omega
      have hltI : ¬ (k : Int) < (k : Int) := by omega
      have HZZ : Hid (Z = (D, 0)) := by
        unfold Hid; rw [h3, HN.out, List.drop_length]; rfl
      have ct1 : wr.cell? ⟨T, 1, none⟩ = some (.slice a nd c) := cell_of h4 1 rfl
      have hTl : T < wr.heap.size := (Array.getElem?_eq_some_iff.1 h4).1
      have HE : Hid (Lr wr (.slice a nd c) D ∧ Below w.heap.size w wr) := ⟨h5.lr, h6⟩
      clear h1 h2 h3 h4 h5 h6 h7
      go_wp2_with fail
      go_ret2
      rw [HZZ.out]
      exact ⟨_, rfl, HE.out.1, HE.out.2⟩
end Go.Proofs.Ythdgmkjjpmigeaa
