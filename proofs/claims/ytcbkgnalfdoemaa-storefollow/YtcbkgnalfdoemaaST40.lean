/- Contracts (the laws): StoreMore. -/
import Derived.Test.YtcbkgnalfdoemaaST39
namespace Go.Proofs.Ytcbkgnalfdoemaa
open Go.RowKit
set_option linter.unusedSimpArgs false
set_option linter.unusedVariables false

/-- A store of the call's own, and slices that stay. -/
structure Kw (w0 w : World) (F : Nat → Prop) (s mo : Nat) (C : List (List Int)) (U : List (Value × List Int)) : Prop where
  kn : Kn w0 w F s mo C
  sl : ∀ x ∈ U, Sf w F x.1 x.2
section
variable {w0 w w' : World} {F F' : Nat → Prop} {s mo : Nat} {C C' : List (List Int)} {U : List (Value × List Int)} {va : Value}
theorem Kw.ch (h : Kw w0 w F s mo C U) (hc : Ch w w' F F') (hs : So w' F' s mo C') : Kw w0 w' F' s mo C' U :=
  ⟨h.kn.ch hc hs, fun x hx => (h.sl x hx).ch hc⟩
theorem Kw.below (h : Kw w0 w F s mo C U) (hb : Below w.heap.size w w') : Kw w0 w' F s mo C U := h.ch (Ch.of_below F hb) (h.kn.so.below hb)
theorem Kw.more (h : Kw w0 w F s mo C U) {v : Value} {l : List Int} (hv : Sf w F v l) : Kw w0 w F s mo C ((v, l) :: U) :=
  ⟨h.kn, fun x hx => by
    rcases List.mem_cons.1 hx with e | e
    · rw [e]; exact hv
    · exact h.sl x e⟩
theorem Kw.get (h : Kw w0 w F s mo C U) {v : Value} {l : List Int} (hv : (v, l) ∈ U) : Sr w v l := (h.sl _ hv).sr
theorem Lw.kw (h : Lw w0 w F s mo C va U) : Kw w0 w F s mo C U := ⟨h.kn, h.sl⟩
theorem kw_fol (h : Kw w0 w F s mo C U) {u : Value} {l : List Int} (hu : (u, l) ∈ U) (hl : l.length ≤ 100000) :
    Calls Try.prog 23 #[.pointer (some ⟨s, 0, none⟩), u] w fun ev w' => ∃ (v : Value) (r : Int) (T : List Int), ev = .returned (.tuple #[v, .int .i64 r]) ∧ FolR C l T r ∧ ∃ F', Kw w0 w' F' s mo C U ∧ Ch w w' F F' ∧ Is' w' w.heap.size v T ∧ ∀ q, v.ownBlock = some q → ¬ F' q := by
  refine (follow_any h.kn.so (h.sl _ hu) hl).mono ?_
  rintro ev w' ⟨v, r, T, rfl, hW, hR⟩
  obtain ⟨F', hS, hC, hv⟩ := hW.ex
  exact ⟨v, r, T, rfl, hR, F', h.ch hC hS, hC, hW.told, hv⟩
theorem kw_add (h : Kw w0 w F s mo C U) {u : Value} {l : List Int} (hu : Sr w u l) (hl : l.length ≤ 100000) :
    Calls Try.prog 13 #[.pointer (some ⟨s, 0, none⟩), u] w fun ev w' => ∃ v, ev = .returned v ∧ ∃ F', Kw w0 w' F' s mo (addF mo C l).2.2 U ∧ Ch w w' F F' := by
  refine (add_any h.kn.so hu hl).mono ?_
  rintro ev w' ⟨rfl, F', hS, hC⟩
  exact ⟨_, rfl, F', h.ch hC hS, hC⟩
end
/-- Clauses that are added one by one. -/
def addsF (mo : Nat) (C M : List (List Int)) : List (List Int) := M.foldl (fun C c => (addF mo C c).2.2) C
theorem addsF_take {mo : Nat} {C M : List (List Int)} {k : Nat} {x : List Int} (h : M[k]? = some x) : addsF mo C (M.take (k + 1)) = (addF mo (addsF mo C (M.take k)) x).2.2 := by
  unfold addsF
  rw [List.take_add_one, h]; simp
theorem addF_sub (mo : Nat) (C : List (List Int)) (c : List Int) : ∀ x ∈ C, x ∈ (addF mo C c).2.2 := fun x hx => by
  cases Classical.em ((addF mo C c).2.1 = 0) with
  | inl h => rw [(addF_ok h).2]; exact List.mem_append_left _ hx
  | inr h => rw [addF_no h]; exact hx
theorem addsF_sub (mo : Nat) : ∀ (M C : List (List Int)), ∀ x ∈ C, x ∈ addsF mo C M
  | [], C, x, hx => hx
  | c :: M, C, x, hx => addsF_sub mo M _ x (addF_sub mo C c x hx)
set_option maxRecDepth 20000 in
set_option maxHeartbeats 3200000 in
theorem more_any (w : World) {vl vm vt vo : Value} {L M : List (List Int)} {lits others : List Int} (hL : Lr w vl L) (_ : ∀ c ∈ L, ∀ y ∈ c, w64 y) (hLB : L.length ≤ 70368744177664 ∧ ∀ c ∈ L, c.length ≤ 70368744177664) (hM : Lr w vm M) (_ : ∀ c ∈ M, ∀ y ∈ c, w64 y) (hMB : M.length ≤ 70368744177664 ∧ ∀ c ∈ M, c.length ≤ 70368744177664)
    (ht : Sr w vt lits) (_ : ∀ y ∈ lits, w64 y) (_ : lits.length ≤ 70368744177664) (ho : Sr w vo others) (_ : ∀ y ∈ others, w64 y) (_ : others.length ≤ 70368744177664) :
    Calls Try.prog 6 #[vl, vm, vt, vo] w fun ev w' => ev = .returned (.bool true) ∧ Below w.heap.size w w' := by
  have HKN : Hid _ := known_any w
  have HL : Hid (Lr w vl L) := hL
  have HM : Hid (Lr w vm M) := hM
  have HT : Hid (Sr w vt lits) := ht
  have HO : Hid (Sr w vo others) := ho
  have HLB : Hid _ := hLB
  have HMB : Hid _ := hMB
  obtain ⟨a1, c1, e1⟩ := hL.out
  obtain ⟨a4, c4, e4⟩ := hM.out
  obtain ⟨a2, c2, e2⟩ := ht.out
  obtain ⟨a3, c3, e3⟩ := ho.out
  obtain ⟨n1, hn1⟩ : ∃ n, n = L.length := ⟨_, rfl⟩
  obtain ⟨n4, hn4⟩ : ∃ n, n = M.length := ⟨_, rfl⟩
  obtain ⟨n2, hn2⟩ : ∃ n, n = lits.length := ⟨_, rfl⟩
  obtain ⟨n3, hn3⟩ : ∃ n, n = others.length := ⟨_, rfl⟩
  rw [← hn1] at e1
  rw [← hn4] at e4
  rw [← hn2] at e2
  rw [← hn3] at e3
  have HN1 : Hid _ := hn1
  have HN2 : Hid _ := hn2
  have HN3 : Hid _ := hn3
  have HN4 : Hid _ := hn4
  subst e1 e2 e3 e4
  clear hL hM ht ho hLB hMB hn1 hn2 hn3 hn4
  go_enter Try.func6, Try.ntmps6
  go_wp2_with fail
  refine Calls.mono HKN.out ?_
  rintro ev w1 ⟨rfl, hb1⟩
  have HB1 : Hid _ := hb1
  have HSZ : Hid _ := size_any (HL.out.below hb1) HLB.out.1 HLB.out.2 (most := 500) (by decide) (by decide)
  have HSY : Hid _ := size_any (HM.out.below hb1) HMB.out.1 HMB.out.2 (most := 500) (by decide) (by decide)
  clear hb1 HKN
  go_wp2_with fail
  refine Calls.mono HSZ.out ?_
  rintro ev w2 ⟨⟨z, rfl, hz⟩, rfl⟩
  have HZ : Hid _ := hz
  clear hz HSZ
  by_cases hz : 500 < z
  · go_wp2_with fail
    refine bodyPost_ret (results_tmp rfl _ _ _) rfl ?_
    exact ⟨rfl, HB1.out⟩
  go_wp2_with fail
  refine Calls.mono HSY.out ?_
  rintro ev w2 ⟨⟨y, rfl, hy⟩, rfl⟩
  have HY : Hid _ := hy
  clear hy HSY
  by_cases hy : 500 < y
  · go_wp2_with fail
    refine bodyPost_ret (results_tmp rfl _ _ _) rfl ?_
    exact ⟨rfl, HB1.out⟩
  by_cases h2 : (40 : Int) < (n2 : Int)
  · go_wp2_with fail
    refine bodyPost_ret (results_tmp rfl _ _ _) rfl ?_
    exact ⟨rfl, HB1.out⟩
  by_cases h3 : (40 : Int) < (n3 : Int)
  · go_wp2_with fail
    refine bodyPost_ret (results_tmp rfl _ _ _) rfl ?_
    exact ⟨rfl, HB1.out⟩
  by_cases h1 : (100 : Int) < (n1 : Int)
  · go_wp2_with fail
    refine bodyPost_ret (results_tmp rfl _ _ _) rfl ?_
    exact ⟨rfl, HB1.out⟩
  by_cases h4 : (100 : Int) < (n4 : Int)
  · go_wp2_with fail
    refine bodyPost_ret (results_tmp rfl _ _ _) rfl ?_
    exact ⟨rfl, HB1.out⟩
  have HLL : Hid ((L.length ≤ 100 ∧ ∀ x ∈ L, x.length ≤ 500) ∧ (madeF L).flatten.length ≤ 500) := by
    have e1 := HN1.out
    have e2 := HZ.out (by omega)
    have e3 := madeF_flat L
    refine ⟨⟨by omega, fun x hx => ?_⟩, by omega⟩
    have : x.length ≤ (L.map List.length).sum := len_sum hx
    omega
  have HMM : Hid ((M.length ≤ 100 ∧ ∀ x ∈ M, x.length ≤ 500) ∧ (M.map List.length).sum ≤ 500) := by
    have e1 := HN4.out
    have e2 := HY.out (by omega)
    refine ⟨⟨by omega, fun x hx => ?_⟩, by omega⟩
    have : x.length ≤ (M.map List.length).sum := len_sum hx
    omega
  have HMD : Hid _ := made_any (HL.out.below HB1.out) (by have := HLL.out.1.1; omega) (fun x hx => by have := HLL.out.1.2 x hx; omega)
  go_wp2_with fail
  refine Calls.mono HMD.out ?_
  rintro ev w3 ⟨s, va, F3, rfl, hS3, hA3, hb3, hF3⟩
  obtain ⟨C, hC⟩ : ∃ C, C = madeF L := ⟨_, rfl⟩
  rw [← hC] at hS3 hA3
  have HCF : Hid (C.flatten.length ≤ 500) := by rw [hC]; exact HLL.out.2
  clear hC HMD
  have HW3 : Hid (Kw w2 w3 F3 s 262144 C [(.slice a2 n2 c2, lits), (.slice a3 n3 c3, others)]) := ⟨⟨hS3, hb3, hF3⟩, fun x hx => by
    have hb := HB1.out
    rcases List.mem_cons.1 hx with rfl | hx
    · exact ((HT.out.below hb)).up hb3 hF3
    · rcases List.mem_cons.1 hx with rfl | hx
      · exact ((HO.out.below hb)).up hb3 hF3
      · cases hx⟩
  clear hS3 hA3 hb3 hF3
  have HF3 : Hid _ := kw_fol HW3.out (u := .slice a2 n2 c2) (l := lits) (by simp) (by have := HN2.out; omega)
  go_wp2_with fail
  refine Calls.mono HF3.out ?_
  rintro ev w4 ⟨va4, n, T, rfl, hR4, F4, hW4, -, hI4, hn4⟩
  have HTM : Hid (T.length ≤ 1000) := by
    have := fol_len hR4; have := HCF.out; have := HN2.out; show T.length ≤ 1000; omega
  have HR4 : Hid (FolR C lits T n) := hR4
  have HW4 : Hid _ := hW4.more (hI4.sf hn4)
  obtain ⟨a5, n5, k5, hv4, hn5⟩ := own_sl hI4
  subst hv4
  have hn5' : n5 ≤ 1000 := by rw [hn5.out]; exact HTM.out
  clear hR4 hW4 hI4 hn4 HF3
  by_cases hn : ¬ n = -1
  · have hn' : (n == -1) = false := by simp [hn]
    go_wp2_with fail
    refine bodyPost_ret (results_tmp rfl _ _ _) rfl ?_
    exact ⟨rfl, HB1.out.trans (HW4.out.kn.bel.mono HB1.out.size)⟩
  have hn1 : n = -1 := Classical.not_not.1 hn
  clear hn
  subst hn1
  go_wp2_with fail
  go_loopw [13] (fun i wr => ∃ (k : Nat) (F : Nat → Prop), k ≤ n4 ∧ i = .int .i64 (k : Int) ∧ Hid (Kw w2 wr F s 262144 (addsF 262144 C (M.take k)) [(.slice a5 n5 k5, T), (.slice a2 n2 c2, lits), (.slice a3 n3 c3, others)])) (fun i wr => n4 - (intOf i).toNat)
  case atStart => exact ⟨0, F4, Nat.zero_le _, rfl, HW4.out⟩
  case round =>
    obtain ⟨k, F, hk, rfl, hH⟩ := hrel
    by_cases hlt : k < n4
    · have hltI : (k : Int) < (n4 : Int) := by omega
      obtain ⟨x, hx⟩ : ∃ x, M[k]? = some x := ⟨_, List.getElem?_eq_getElem (by rw [← HN4.out]; exact hlt)⟩
      have hbw : Below w.heap.size w wr := HB1.out.trans (hH.out.kn.bel.mono HB1.out.size)
      obtain ⟨r, o, u, rfl, hcu, hSr⟩ := (HM.out.below hbw).at' hx
      have hxl := HMM.out.1.2 x (List.mem_of_getElem? hx)
      have HMT : Hid _ := addsF_take (mo := 262144) (C := C) hx
      have HAD : Hid _ := kw_add hH.out hSr (by omega)
      have hro : r < wr.heap.size := World.block_lt_of_cell? _ _ hcu
      obtain ⟨au, cu, hue⟩ := hSr.out
      obtain ⟨nu, hnu⟩ : ∃ n, n = x.length := ⟨_, rfl⟩
      rw [← hnu] at hue
      subst hue
      clear hx hSr hbw hnu
      go_wp2_with fail
      refine Calls.mono HAD.out ?_
      rintro ev w5 ⟨v, rfl, F5, hK5, -⟩
      have HK5 : Hid _ := hK5
      rw [← HMT.out] at HK5
      clear hK5 HAD
      go_wp2_with fail
      exact ⟨⟨k + 1, F5, by omega, by go_num, HK5.out⟩, by simp [intOf]; omega⟩
    · obtain rfl : k = n4 := by omega
      have hltI : ¬ (k : Int) < (k : Int) := by omega
      obtain ⟨C2, hC2⟩ : ∃ C2, C2 = addsF 262144 C M := ⟨_, rfl⟩
      have hH2 := hH.out
      rw [HN4.out, List.take_length, ← hC2] at hH2
      have HC2 : Hid ((∀ x ∈ C, x ∈ C2) ∧ C2.flatten.length ≤ 1000) := by
        rw [hC2]
        refine ⟨addsF_sub _ _ _, ?_⟩
        have := addsF_flat 262144 M C
        have := HCF.out
        have := HMM.out.2
        show (M.foldl (fun C c => (addF 262144 C c).2.2) C).flatten.length ≤ 1000
        omega
      have HH2 : Hid _ := hH2
      clear hH2 hC2 hH
      have HR0 : Hid (Is' wr wr.heap.size (.slice none 0 0) []) := World.ownsRow_nil _ _ _ _
      have HSL : Hid (Sr wr (.slice a2 n2 c2) lits) := HH2.out.get (by simp)
      have HLE : Hid (([] : List Int).length + lits.length ≤ 2000000) := by
        have := HN2.out; show 0 + lits.length ≤ 2000000; omega
      have HLT : Hid (∀ q, F q → q < wr.heap.size) := HH2.out.kn.so.lt
      have HLF : Hid (lits.length + others.length ≤ 2000000) := by
        have := HN2.out; have := HN3.out; show lits.length + others.length ≤ 2000000; omega
      have HSS : Hid (Sr wr (.slice a3 n3 c3) others) := HH2.out.get (by simp)
      have HBB : Hid (∀ w6 : World, wr.grownBy w6 (Value.slice none 0 0).ownBlock → Below wr.heap.size wr w6) := fun w6 hg6 => ⟨hg6.os, hg6.tape, hg6.output, hg6.size, fun b hb => hg6.block b hb (fun e => by cases e)⟩
      go_wp2_with (at_builtin; first
        | (refine wpList_app rfl _ _ rfl wr.heap.size _ lits rfl HI6.out _ others rfl HSO.out HLF.out HB6.out.size ?_; intro v7 w7 hI7 hg7 _; obtain ⟨a7, n7, k7, hv7, HM7⟩ := own_sl hI7; subst hv7)
        | (refine wpList_app rfl _ _ rfl wr.heap.size _ [] rfl HR0.out _ lits rfl HSL.out HLE.out (Nat.le_refl _) ?_; intro v6 w6 hI6 hg6 _; obtain ⟨a6, n6, k6, hv6, HM6⟩ := own_sl hI6; subst hv6
           have HI6 : Hid (Is' w6 wr.heap.size (.slice a6 n6 k6) lits) := hI6
           have HB6 : Hid (Below wr.heap.size wr w6) := HBB.out w6 hg6
           have HSO : Hid (Sr w6 (.slice a3 n3 c3) others) := HSS.out.below HB6.out
           clear hI6 hg6))
      have hb7 : Below wr.heap.size wr w7 := by
        have hb := HB6.out
        exact ⟨hg7.os.trans hb.os, hg7.tape.trans hb.tape, hg7.output.trans hb.output, Nat.le_trans hb.size hg7.size, fun b hb' => (hg7.block b (Nat.lt_of_lt_of_le hb' hb.size) (fun e => by have := (World.ownsRow.lt HI6.out b e.symm).1; omega)).trans (hb.block b hb')⟩
      have HK7 : Hid _ := (HH2.out.below hb7).more (hI7.sf_low HLT.out)
      have HF7 : Hid _ := kw_fol HK7.out (u := .slice a7 n7 k7) (l := lits ++ others) (by simp) (by have := HN2.out; have := HN3.out; simp; omega)
      clear hI7 hg7 hb7 HB6
      go_wp2_with fail
      refine Calls.mono HF7.out ?_
      rintro ev w8 ⟨v8, m, T8, rfl, hR8, F8, hW8, -, hI8, hn8⟩
      have HTN : Hid (T8.length ≤ 2000) := by
        have h0 := fol_len hR8; have := HC2.out.2; have := HN2.out; have := HN3.out
        rw [List.length_append] at h0
        show T8.length ≤ 2000; omega
      have HEN : Hid (m = -1 ∨ m = -2 ∨ ∃ i : Nat, m = (i : Int) ∧ i < C2.length) := fol_end hR8
      have HSB : Hid (m = -1 → ∀ x ∈ T, x ∈ T8) := fun e => by
        rw [e] at hR8
        exact (fol_one hR8 HR4.out HC2.out.1 (fun x hx => List.mem_append_left _ hx)).2
      have HW8 : Hid _ := hW8.more (hI8.sf hn8)
      have HLN : Hid _ := slen_any hW8.kn.so
      obtain ⟨l2, hl2⟩ : ∃ n, n = C2.length := ⟨_, rfl⟩
      have hl2b : l2 ≤ 131072 := by rw [hl2]; exact hW8.kn.so.len.1
      rw [← hl2] at HLN HEN
      obtain ⟨a8, n8, k8, hv8, -⟩ := own_sl hI8
      subst hv8
      clear hR8 hW8 hI8 hn8 HF7 hl2
      go_wp2_with fail
      go_loopw [16] (fun i w' => ∃ (k : Nat), k ≤ n5 ∧ i = .int .i64 (k : Int) ∧ w8 = w') (fun i w' => n5 - (intOf i).toNat)
      case atStart => exact ⟨0, Nat.zero_le _, rfl, rfl⟩
      case round =>
        obtain ⟨k2, hk2, rfl, rfl⟩ := hrel
        by_cases hgo : k2 < n5 ∧ m = -1
        · obtain ⟨hlt2, rfl⟩ := hgo
          have hltI2 : (k2 : Int) < (n5 : Int) := by omega
          have hSa := HW8.out.get (v := .slice a5 n5 k5) (l := T) (by simp)
          obtain ⟨x, hx⟩ : ∃ x, T[k2]? = some x := ⟨_, List.getElem?_eq_getElem (by rw [← hn5.out]; exact hlt2)⟩
          have HX : Hid (x ∈ T8) := HSB.out rfl x (List.mem_of_getElem? hx)
          obtain ⟨r5, o5, rfl, hr5, hc5⟩ : ∃ r o, a5 = some ⟨r, o, none⟩ ∧ r < w8.heap.size ∧ w8.cell? ⟨r, o + k2, none⟩ = some (.int .i64 x) := by
            obtain ⟨a, c, e, h2⟩ := hSa.ex
            injection e with e1 e2 e3
            rcases h2 with h2 | ⟨r, o, h3, h4, h5⟩
            · rw [h2] at hx; cases hx
            · refine ⟨r, o, e1.trans h3, h4, ?_⟩
              have := h5 k2 (List.getElem?_eq_some_iff.1 hx).1
              rw [List.getD_eq_getElem?_getD, hx] at this
              exact this
          have HHA : Hid _ := rhas_any (HW8.out.get (v := .slice a8 n8 k8) (l := T8) (by simp)) (by have := HTN.out; omega) x
          rw [decide_eq_true HX.out] at HHA
          clear hSa hx
          go_wp2_with fail
          refine Calls.mono HHA.out ?_
          rintro ev w9 ⟨rfl, rfl⟩
          go_wp2_with fail
          exact ⟨⟨k2 + 1, by omega, by go_num, by first | rfl | trivial⟩, by simp [intOf]; omega⟩
        · have HBE : Hid (Below w.heap.size w w8) := HB1.out.trans (HW8.out.kn.bel.mono HB1.out.size)
          rcases HEN.out with rfl | rfl | ⟨i, rfl, hi⟩
          · have hltI2 : ¬ (k2 : Int) < (n5 : Int) := by omega
            go_wp2_with fail
            refine bodyPost_ret (results_tmp rfl _ _ _) rfl ?_
            exact ⟨rfl, HBE.out⟩
          · go_wp2_with fail
            all_goals
              refine bodyPost_ret (results_tmp rfl _ _ _) rfl ?_
              exact ⟨rfl, HBE.out⟩
          · have hi1 : ((i : Int) == -1) = false := by simp
            have hi2 : ((i : Int) == -2) = false := by simp
            have hi3 : 0 ≤ (i : Int) := by omega
            have hi4 : (i : Int) < (l2 : Int) := by omega
            go_wp2_with fail
            all_goals
              refine Calls.mono HLN.out ?_
              rintro ev w9 ⟨rfl, rfl⟩
              go_wp2_with fail
              refine bodyPost_ret (results_tmp rfl _ _ _) rfl ?_
              exact ⟨rfl, HBE.out⟩
end Go.Proofs.Ytcbkgnalfdoemaa
