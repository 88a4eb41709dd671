/- Contracts (the law's helps): known: the chapter's examples. -/
import Derived.Test.YtkndjndhjdfhcaaST35
namespace Go.Proofs.Ytkndjndhjdfhcaa
open Go.RowKit
set_option linter.unusedSimpArgs false
set_option linter.unusedVariables false

/-- A store of the call's own. -/
structure Kn (w0 w : World) (F : Nat → Prop) (s mo : Nat) (C : List (List Int)) : Prop where
  so : So w F s mo C
  bel : Below w0.heap.size w0 w
  low : ∀ k, F k → w0.heap.size ≤ k
theorem Kn.ch {w0 w w' : World} {F F' : Nat → Prop} {s mo : Nat} {C C' : List (List Int)} (h : Kn w0 w F s mo C) (hc : Ch w w' F F') (hs : So w' F' s mo C') : Kn w0 w' F' s mo C' :=
  ⟨hs, h.bel.trans (hc.below h.low h.bel.size), hc.low h.low h.bel.size⟩
abbrev lob (l : List Int) : Obj := .cells (l.map (Value.int .i64)).toArray 3
theorem sf_new (w : World) {F : Nat → Prop} (hF : ∀ q, F q → q < w.heap.size) (l : List Int) : Sf (w.alloc (lob l)) F (.slice (some ⟨w.heap.size, 0, none⟩) l.length l.length) l :=
  ⟨_, _, rfl, Or.inr ⟨w.heap.size, 0, rfl, by rw [size_alloc']; omega, fun hf => by have := hF _ hf; omega, fun j hj => by
    rw [Nat.zero_add]
    refine cell_of (heap_alloc_new w _) j ?_
    rw [List.getElem?_toArray, List.getElem?_map, List.getElem?_eq_getElem hj, List.getD_eq_getElem?_getD, List.getElem?_eq_getElem hj]; rfl⟩⟩
theorem Is'.sf_low {w : World} {B : Nat} {F : Nat → Prop} {v : Value} {l : List Int} (h : Is' w B v l) (hF : ∀ q, F q → q < B) : Sf w F v l := by
  obtain ⟨a, k, hv⟩ := own_slice h
  refine ⟨a, k, hv, ?_⟩
  by_cases hl : l = []
  · exact Or.inl hl
  · obtain ⟨r, cap, e, hb, hr, hL⟩ := h.li hl
    refine Or.inr ⟨r, 0, ?_, ?_, fun hf => ?_, hL⟩
    · rw [e] at hv; injection hv with hv; exact hv.symm
    · exact (World.ownsRow.lt h r (by rw [e]; rfl)).2
    · have := hF r hf; omega
theorem below_alloc (w : World) (o : Obj) : Below w.heap.size w (w.alloc o) := ⟨rfl, rfl, rfl, by rw [size_alloc']; omega, fun k hk => heap_alloc_old _ _ hk⟩
section
variable {w0 w : World} {F : Nat → Prop} {s mo : Nat} {C : List (List Int)}
theorem kn_add (h : Kn w0 w F s mo C) (l : List Int) (hl : l.length ≤ 100000) {r e : Int} {C' : List (List Int)} (hE : addF mo C l = (r, e, C')) :
    Calls Try.prog 13 #[.pointer (some ⟨s, 0, none⟩), .slice (some ⟨w.heap.size, 0, none⟩) l.length l.length] (w.alloc (lob l)) fun ev w' => ev = .returned (.tuple #[.int .i64 r, .int .i64 e]) ∧ ∃ F', Kn w0 w' F' s mo C' ∧ Ch w w' F F' := by
  have hb := below_alloc w (lob l)
  refine (add_any (h.so.below hb) (sf_new w h.so.lt l).sr hl).mono ?_
  rw [hE]
  rintro ev w' ⟨rfl, F', hS, hC⟩
  have hc := (Ch.of_below F hb).trans hC
  exact ⟨rfl, F', h.ch hc hS, hc⟩
theorem kn_fol (h : Kn w0 w F s mo C) (l : List Int) (hl : l.length ≤ 100000) :
    Calls Try.prog 23 #[.pointer (some ⟨s, 0, none⟩), .slice (some ⟨w.heap.size, 0, none⟩) l.length l.length] (w.alloc (lob l)) fun ev w' => ∃ (v : Value) (r : Int) (T : List Int), ev = .returned (.tuple #[v, .int .i64 r]) ∧ FolR C l T r ∧ ∃ F', Kn w0 w' F' s mo C ∧ Ch w w' F F' ∧ Sf w' F' v T := by
  have hb := below_alloc w (lob l)
  refine (follow_any (h.so.below hb) (sf_new w h.so.lt l) hl).mono ?_
  rintro ev w' ⟨v, r, T, rfl, hW, hR⟩
  obtain ⟨F', hS, hC, hv⟩ := hW.ex
  have hc := (Ch.of_below F hb).trans hC
  exact ⟨v, r, T, rfl, hR, F', h.ch hc hS, hc, hW.told.sf hv⟩
theorem kn_has (h : Kn w0 w F s mo C) (l : List Int) (hl : l.length ≤ 100000) {b : Bool} (hE : hasF C l = b) :
    Calls Try.prog 19 #[.pointer (some ⟨s, 0, none⟩), .slice (some ⟨w.heap.size, 0, none⟩) l.length l.length] (w.alloc (lob l)) fun ev w' => ev = .returned (.bool b) ∧ Kn w0 w' F s mo C := by
  have hb := below_alloc w (lob l)
  refine (has_any (h.so.below hb) (sf_new w h.so.lt l).sr hl).mono ?_
  rw [hE]
  rintro ev w' ⟨rfl, hb2⟩
  have hb3 : Below w.heap.size w w' := hb.trans (hb2.mono hb.size)
  exact ⟨rfl, h.ch (Ch.of_below F hb3) (h.so.below hb3)⟩
end
theorem kn_ints {w0 w : World} {F : Nat → Prop} {s mo : Nat} {C : List (List Int)} (h : Kn w0 w F s mo C) {v : Value} {T : List Int} (hv : Sf w F v T) (hT : T.length ≤ 1000) (l : List Int) (hl : l.length ≤ 1000) {b : Bool} (hE : decide (T = l) = b) :
    Calls Try.prog 15 #[v, .slice (some ⟨w.heap.size, 0, none⟩) l.length l.length] (w.alloc (lob l)) fun ev w' => ev = .returned (.bool b) ∧ Kn w0 w' F s mo C ∧ Below w.heap.size w w' := by
  have hb := below_alloc w (lob l)
  refine (ints_sr (hv.ch (Ch.of_below F hb)).sr (sf_new w h.so.lt l).sr (by omega) (by omega)).mono ?_
  rw [hE]
  rintro ev w' ⟨rfl, hb2⟩
  have hb3 : Below w.heap.size w w' := hb.trans (hb2.mono hb.size)
  exact ⟨rfl, h.ch (Ch.of_below F hb3) (h.so.below hb3), hb3⟩
theorem hasF_dd (C : List (List Int)) (c : List Int) : hasF C c = (decide ((onceF c).2 = 0) && C.any fun c' => hj c' (dd c)) := by
  unfold hasF
  congr 2
  funext c'
  unfold hj
  rw [List.length_mergeSort]
  congr 2
  funext x
  rw [decide_eq_decide]
  exact sort_mem
theorem ptr_nil (w : World) (a : Addr) : (binOp .eql 25 (.pointer (some a)) (.pointer none)).run Try.prog w = .ok (.bool false) w := by kernel_rfl
set_option maxRecDepth 20000 in
set_option maxHeartbeats 25600000 in
theorem known_any (w : World) :
    Calls Try.prog 9 #[] w fun ev w' => ev = .returned (.bool true) ∧ Below w.heap.size w w' := by
  have HNW : Hid _ := snew_any 100 w
  have e100 : roomOf 100 = 100 := rfl
  rw [e100] at HNW
  clear e100
  go_enter Try.func9, Try.ntmps9
  go_wp2_with fail
  refine Calls.mono HNW.out ?_
  rintro ev w1 ⟨rfl, hb1, hz1, hX1⟩
  obtain ⟨F1, HK1⟩ : ∃ F1, Hid (Kn w w1 F1 (w.heap.size + 1) 100 []) := ⟨_, so_new (most := 100) hX1, hb1, fun k hk => hk.1⟩
  obtain ⟨s, hs⟩ : ∃ s, s = w.heap.size + 1 := ⟨_, rfl⟩
  rw [← hs] at HK1 ⊢
  clear hb1 hz1 hX1 hs HNW
  have hnil := ptr_nil w1 ⟨s, 0, none⟩
  go_wp2_with fail
  refine Calls.mono (kn_add HK1.out [1, 2] (by decide) (r := 0) (e := 0) (C' := [[1, 2]]) (by decide)) ?_
  rintro ev w2 ⟨rfl, F2, hK2, -⟩
  have HK2 : Hid _ := hK2
  clear hK2 hnil
  go_wp2_with fail
  refine Calls.mono (kn_add HK2.out [-1, 3] (by decide) (r := 1) (e := 0) (C' := [[1, 2], [-1, 3]]) (by decide)) ?_
  rintro ev w3 ⟨rfl, F3, hK3, -⟩
  have HK3 : Hid _ := hK3
  clear hK3
  go_wp2_with fail
  refine Calls.mono (kn_add HK3.out [-2, -3] (by decide) (r := 2) (e := 0) (C' := KC) (by decide)) ?_
  rintro ev w4 ⟨rfl, F4, hK4, -⟩
  have HK4 : Hid (Kn w w4 F4 s 100 KC) := hK4
  clear hK4
  go_wp2_with fail
  refine Calls.mono (kn_add HK4.out [1, -1] (by decide) (r := 0) (e := 112) (C' := KC) (by decide)) ?_
  rintro ev w5 ⟨rfl, F5, hK5, -⟩
  have HK5 : Hid (Kn w w5 F5 s 100 KC) := hK5
  clear hK5
  go_wp2_with fail
  refine Calls.mono (kn_add HK5.out [0] (by decide) (r := 0) (e := 110) (C' := KC) (by decide)) ?_
  rintro ev w6 ⟨rfl, F6, hK6, -⟩
  have HK6 : Hid (Kn w w6 F6 s 100 KC) := hK6
  clear hK6
  go_wp2_with fail
  refine Calls.mono (kn_fol HK6.out [1] (by decide)) ?_
  rintro ev w7 ⟨v1, r1, T1, rfl, hR1, F7, hK7, -, hv1⟩
  obtain ⟨e1, e2⟩ := kn1 hR1
  subst e1 e2
  have HK7 : Hid (Kn w w7 F7 s 100 KC) := hK7
  have HV7 : Hid (Sf w7 F7 v1 [1, 3, -2]) := hv1
  obtain ⟨a1, c1, hv1e⟩ := hv1.sr.out
  have e3 : ([1, 3, -2] : List Int).length = 3 := rfl
  rw [e3] at hv1e
  subst hv1e
  clear hK7 hv1 hR1 e3
  go_wp2_with fail
  refine Calls.mono (kn_fol HK7.out [1, 2] (by decide)) ?_
  rintro ev w8 ⟨v2, r2, T2, rfl, hR2, F8, hK8, hC8, hv2⟩
  obtain ⟨e1, e2⟩ := kn2 hR2
  subst e2
  have HK8 : Hid (Kn w w8 F8 s 100 KC) := hK8
  have HV8 : Hid (Sf w8 F8 (.slice a1 3 c1) [1, 3, -2]) := HV7.out.ch hC8
  obtain ⟨a2, c2, hv2e⟩ := hv2.sr.out
  rw [e1] at hv2e
  subst hv2e
  have HCL : Hid _ := clause_yes hK8.so (k := 2) (c := [-2, -3]) rfl
  rw [show ((2 : Nat) : Int) = 2 from rfl] at HCL
  clear hK8 hv2 hR2 hC8 e1
  go_wp2_with fail
  refine Calls.mono HCL.out ?_
  rintro ev w9 ⟨u, rfl, hu, hb9⟩
  have hc9 := Ch.of_below F8 hb9
  have HK9 : Hid (Kn w w9 F8 s 100 KC) := HK8.out.ch hc9 (HK8.out.so.below hb9)
  have HV9 : Hid (Sf w9 F8 (.slice a1 3 c1) [1, 3, -2]) := HV8.out.ch hc9
  have HU9 : Hid (Sf w9 F8 u [-2, -3]) := hu.sf_low HK8.out.so.lt
  have HCN : Hid _ := clause_no HK9.out.so (k := 3) (Or.inr (by decide))
  obtain ⟨au, cu, hue⟩ := HU9.out.sr.out
  have e3 : ([-2, -3] : List Int).length = 2 := rfl
  rw [e3] at hue
  subst hue
  clear hu hb9 hc9 e3 HCL
  go_wp2_with fail
  refine Calls.mono HCN.out ?_
  rintro ev w10 ⟨rfl, hb10⟩
  have hc10 := Ch.of_below F8 hb10
  have HK10 : Hid (Kn w w10 F8 s 100 KC) := HK9.out.ch hc10 (HK9.out.so.below hb10)
  have HV10 : Hid (Sf w10 F8 (.slice a1 3 c1) [1, 3, -2]) := HV9.out.ch hc10
  have HU10 : Hid (Sf w10 F8 (.slice au 2 cu) [-2, -3]) := HU9.out.ch hc10
  clear hb10 hc10 HCN
  go_wp2_with fail
  refine Calls.mono (kn_ints HK10.out HV10.out (by decide) [1, 3, -2] (by decide) (b := true) (by decide)) ?_
  rintro ev w11 ⟨rfl, hK11, hb11⟩
  have HK11 : Hid (Kn w w11 F8 s 100 KC) := hK11
  have HU11 : Hid (Sf w11 F8 (.slice au 2 cu) [-2, -3]) := HU10.out.ch (Ch.of_below F8 hb11)
  clear hK11 hb11
  go_wp2_with fail
  refine Calls.mono (kn_ints HK11.out HU11.out (by decide) [-2, -3] (by decide) (b := true) (by decide)) ?_
  rintro ev w12 ⟨rfl, hK12, -⟩
  have HK12 : Hid (Kn w w12 F8 s 100 KC) := hK12
  have HLN : Hid _ := slen_any hK12.so
  have HWD : Hid _ := swords_any hK12.so
  rw [show (KC.length : Int) = 3 from rfl] at HLN
  rw [show ((ar KC).length : Int) = 12 from rfl] at HWD
  clear hK12
  go_wp2_with fail
  refine Calls.mono HLN.out ?_
  rintro ev w13 ⟨rfl, rfl⟩
  go_wp2_with fail
  refine Calls.mono HWD.out ?_
  rintro ev w14 ⟨rfl, rfl⟩
  go_wp2_with fail
  refine Calls.mono (kn_has HK12.out [2, 1] (by decide) (b := true) (by rw [hasF_dd]; decide)) ?_
  rintro ev w15 ⟨rfl, hK15⟩
  have HK15 : Hid _ := hK15
  clear hK15
  go_wp2_with fail
  refine Calls.mono (kn_has HK15.out [2] (by decide) (b := false) (by rw [hasF_dd]; decide)) ?_
  rintro ev w16 ⟨rfl, hK16⟩
  have HK16 : Hid _ := hK16
  clear hK16
  go_wp2_with fail
  refine bodyPost_ret (results_tmp rfl _ _ _) rfl ?_
  exact ⟨rfl, HK16.out.bel⟩
end Go.Proofs.Ytkndjndhjdfhcaa
