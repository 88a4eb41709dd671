/- Contracts (traces): resolvent. -/
import Derived.Test.YthdgmkjjpmigeaaTR13
namespace Go.Proofs.Ythdgmkjjpmigeaa
open Go.RowKit
set_option linter.unusedSimpArgs false
set_option linter.unusedVariables false

def mm (cur : List Int) (x : Int) : Bool := decide (x ∈ cur)
def joinL (cur c : List Int) (p : Int) : List Int := setF (cur.filter (fun x => decide (x ≠ p)) ++ c.filter (fun x => decide (x ≠ -p)))
theorem mm_join (cur c : List Int) (p : Int) : joinB (mm cur) c p = mm (joinL cur c p) := by
  funext x
  unfold joinB mm joinL
  rw [Bool.eq_iff_iff]
  simp [setF_mem]
/-- The clause of what is left of a step. -/
def goF (G D : List (List Int)) : List Int → Bool → List Int → Option (List Int)
  | cur, _, [] => some cur
  | cur, fst, n :: F => match clF G D n with
    | none => none
    | some c => if fst then goF G D (joinL cur c 0) false F else if (pivF (mm cur) c 0).2 then goF G D (joinL cur c (pivF (mm cur) c 0).1) false F else none
def resF (G D : List (List Int)) (F : List Int) : Option (List Int) := if F = [] then none else goF G D [] true F
theorem pivF_b {S : Int → Bool} : ∀ {c : List Int} {p : Int}, (∀ x ∈ c, okZ x = true) → -2147483647 ≤ p ∧ p ≤ 2147483647 → -2147483647 ≤ (pivF S c p).1 ∧ (pivF S c p).1 ≤ 2147483647
  | [], p, _, hp => hp
  | l :: c, p, hc, hp => by
    have h1 : ∀ x ∈ c, okZ x = true := fun x hx => hc x (by simp [hx])
    have h2 := okZ_b (hc l (by simp))
    unfold pivF
    split
    · exact pivF_b h1 hp
    · split
      · exact ⟨by decide, by decide⟩
      · exact pivF_b h1 (by omega)
theorem clF_ok {G D : List (List Int)} {x : Int} {c : List Int} (hD : ∀ d ∈ D, (∀ x ∈ d, okZ x = true) ∧ d.length ≤ 10000) (hG : ∀ d ∈ G, d.length ≤ 10000) (h : clF G D x = some c) : (∀ x ∈ c, okZ x = true) ∧ c.length ≤ 10000 := by
  unfold clF at h
  split at h
  · cases h
  · split at h
    · exact hD c (List.mem_of_getElem? h)
    · split at h
      · rename_i c' hc'
        split at h
        · cases h
        · rename_i hn
          injection h with h
          subst h
          refine ⟨fun x hx => ?_, hG _ (List.mem_of_getElem? hc')⟩
          have hn2 : c'.any noL = false := by simpa using hn
          have := List.any_eq_false.1 hn2 x hx
          unfold noL at this
          simpa using this
      · cases h
theorem clF_len {G D : List (List Int)} {x : Int} {c : List Int} {N : Nat} (hG : ∀ d ∈ G, d.length ≤ N) (hD : ∀ d ∈ D, d.length ≤ N) (h : clF G D x = some c) : c.length ≤ N := by
  unfold clF at h
  split at h
  · cases h
  · split at h
    · exact hD c (List.mem_of_getElem? h)
    · split at h
      · rename_i c' hc'
        split at h
        · cases h
        · injection h with h
          subst h
          exact hG _ (List.mem_of_getElem? hc')
      · cases h
theorem joinL_ok {cur c : List Int} {p : Int} (h1 : ∀ x ∈ cur, okZ x = true) (h2 : ∀ x ∈ c, okZ x = true) : ∀ x ∈ joinL cur c p, okZ x = true := fun x hx => by
  unfold joinL at hx
  rw [setF_mem, List.mem_append] at hx
  rcases hx with e | e
  · exact h1 x (List.mem_filter.1 e).1
  · exact h2 x (List.mem_filter.1 e).1
set_option maxRecDepth 20000 in
set_option maxHeartbeats 12800000 in
theorem resolvent_any {w : World} {t : Nat} {vg vd : Value} {G D : List (List Int)} (hT : Tb w t vg vd G D) (hG : G.length ≤ 2000) (hD : D.length ≤ 2000) (hGl : ∀ x ∈ G, x.length ≤ 2000) (hDl : ∀ d ∈ D, (∀ x ∈ d, okZ x = true) ∧ d.length ≤ 2000) {u : Value} {F : List Int} (hu : Sr w u F) (hF : F.length ≤ 2000) (hw : ∀ x ∈ F, w64 x) :
    Calls Try.prog 42 #[.pointer (some ⟨t, 0, none⟩), u] w fun ev w' => ∃ (u' : Value), ev = .returned (.tuple #[u', .bool (resF G D F).isSome]) ∧ IsSl u' ∧ (∀ r, resF G D F = some r → Is' w' w.heap.size u' r) ∧ Below w.heap.size w w' := by
  have hmm := @run_makeMap Try.prog
  obtain ⟨Z, hZ⟩ : ∃ Z, Z = resF G D F := ⟨_, rfl⟩
  rw [← hZ]
  have HZ : Hid _ := hZ
  have HT : Hid _ := hT
  have HC : Hid _ := hu
  have HG : Hid (G.length ≤ 2000 ∧ D.length ≤ 2000 ∧ (∀ x ∈ G, x.length ≤ 2000) ∧ (∀ d ∈ D, (∀ x ∈ d, okZ x = true) ∧ d.length ≤ 2000) ∧ ∀ x ∈ F, w64 x) := ⟨hG, hD, hGl, hDl, hw⟩
  obtain ⟨a, c0, rfl⟩ := hu.out
  obtain ⟨m, hm⟩ : ∃ m, m = F.length := ⟨_, rfl⟩
  rw [← hm] at HC hF ⊢
  have HN : Hid _ := hm
  clear hT hu hG hD hGl hDl hw hZ hm
  by_cases hm0 : m = 0
  · subst hm0
    have HZZ : Hid (Z = none) := by
      unfold Hid
      rw [HZ.out]; unfold resF; rw [if_pos (List.eq_nil_of_length_eq_zero HN.out.symm)]
    go_enter Try.func42, Try.ntmps42
    go_wp2_with fail
    go_ret2
    exact ⟨_, by rw [HZZ.out]; rfl, ⟨⟨_, _, _, rfl⟩⟩, fun r hr => (by rw [HZZ.out] at hr; cases hr), Below.refl _ _⟩
  · have hm0b : ((m : Int) == 0) = false := by simp; omega
    have HZ1 : Hid (Z = goF G D [] true F) := by
      unfold Hid
      rw [HZ.out]; unfold resF; rw [if_neg (fun e => hm0 (by rw [HN.out, e]; rfl))]
    go_enter Try.func42, Try.ntmps42
    go_wp2_with fail
    obtain ⟨b, hb⟩ : ∃ b, b = w.heap.size := ⟨_, rfl⟩
    have HB : Hid _ := hb
    have HM0 : Hid (Mk (w.alloc (.map #[] 0)) b 0 (mm [])) := by
      unfold Hid
      rw [hb]; exact Mk.made w
    have HB0 : Hid (Below w.heap.size w (w.alloc (.map #[] 0))) := by unfold Hid; go_grown
    rw [← hb]
    clear hb hmm
    go_loopw [18] (fun i wr => ∃ (k : Nat) (cur : List Int), k ≤ m ∧ i = .int .i64 (k : Int) ∧ Hid (Z = goF G D cur (decide (k = 0)) (F.drop k) ∧ Mk wr b (2000 * k) (mm cur) ∧ Below w.heap.size w wr ∧ (∀ x ∈ cur, okZ x = true) ∧ cur.Pairwise (· < ·))) (fun i wr => m - (intOf i).toNat)
    case atStart => exact ⟨0, [], Nat.zero_le _, rfl, HZ1.out, HM0.out, HB0.out, fun x hx => (nomatch hx), List.Pairwise.nil⟩
    case round =>
      obtain ⟨k, cur, hk, rfl, hH⟩ := hrel
      by_cases hlt : k < m
      · have hltI : (k : Int) < (m : Int) := by omega
        have hkl : k < F.length := by rw [← HN.out]; exact hlt
        obtain ⟨r, o, rfl, hck⟩ := HC.out.at' hH.out.2.2.1 hkl
        obtain ⟨x, hx⟩ : ∃ x, x = F.getD k 0 := ⟨_, rfl⟩
        rw [← hx] at hck
        have hcl : F[k]? = some x := by rw [hx]; exact at_getD hkl
        have hrr : r < wr.heap.size := World.block_lt_of_cell? _ _ hck
        have HCA : Hid _ := clause_any (HT.out.below hH.out.2.2.1) (by have := HG.out.1; omega) (by have := HG.out.2.1; omega) (fun d hd => Nat.le_trans (HG.out.2.2.1 d hd) (by decide)) x (HG.out.2.2.2.2 x (List.mem_of_getElem? hcl))
        have HST : Hid (Z = goF G D cur (decide (k = 0)) (x :: F.drop (k + 1))) := by unfold Hid; rw [hH.out.1, drop_cons hcl]
        clear hx hcl hkl
        go_wp2_with fail
        refine Calls.mono HCA.out ?_
        rintro ev w1 ⟨uc, ok, rfl, hok, hsl, hSc, hb1⟩
        obtain ⟨ac, nc, kc, huc⟩ := hsl.ex
        subst huc
        have HB1 : Hid (Below w.heap.size w w1) := hH.out.2.2.1.trans (hb1.mono hH.out.2.2.1.size)
        cases hcf : clF G D x with
        | none =>
          rw [hcf] at hok
          obtain rfl : ok = false := hok
          have HZZ : Hid (Z = none) := by
            unfold Hid; rw [HST.out, goF, hcf]
          clear hSc hb1 HCA hcf
          go_wp2_with fail
          go_ret2
          exact ⟨_, by rw [HZZ.out]; rfl, ⟨⟨_, _, _, rfl⟩⟩, fun r hr => (by rw [HZZ.out] at hr; cases hr), HB1.out⟩
        | some c =>
          rw [hcf] at hok
          obtain rfl : ok = true := hok
          have hcok := clF_ok (fun d hd => ⟨(HG.out.2.2.2.1 d hd).1, Nat.le_trans (HG.out.2.2.2.1 d hd).2 (by decide)⟩) (fun d hd => Nat.le_trans (HG.out.2.2.1 d hd) (by decide)) hcf
          have HCK : Hid (∀ x ∈ c, okZ x = true) := hcok.1
          have HCL : Hid (c.length ≤ 2000) := by
            have h9 := clF_len (HG.out.2.2.1) (fun d hd => (HG.out.2.2.2.1 d hd).2) hcf
            exact h9
          have HSC : Hid (Sr w1 (.slice ac nc kc) c) := (hSc c hcf).below hb1
          have HM1 : Hid (Mk w1 b (2000 * k) (mm cur)) := hH.out.2.1.kept (hb1.block _ hH.out.2.1.lt)
          have HS2 : Hid (Z = if decide (k = 0) = true then goF G D (joinL cur c 0) false (F.drop (k + 1)) else if (pivF (mm cur) c 0).2 then goF G D (joinL cur c (pivF (mm cur) c 0).1) false (F.drop (k + 1)) else none) := by
            unfold Hid; rw [HST.out, goF, hcf]
          have hmk : k ≤ 2000 := by omega
          clear hSc hb1 HCA hcf hcok HST
          by_cases hk0 : k = 0
          · subst hk0
            have HNX : Hid (Z = goF G D (joinL cur c 0) (decide ((0 : Nat) + 1 = 0)) (F.drop (0 + 1))) := by unfold Hid; rw [HS2.out]; simp
            have HJ : Hid _ := join_any HM1.out (by omega) HSC.out (by have := HCL.out; omega) HCK.out (p := 0) (by decide)
            rw [mm_join] at HJ
            go_wp2_with fail
            refine Calls.mono HJ.out ?_
            rintro ev w2 ⟨rfl, hM2, hg2, hs2⟩
            have HE : Hid (Mk w2 b (2000 * (0 + 1)) (mm (joinL cur c 0)) ∧ Below w.heap.size w w2) := ⟨hM2.mono (by have := HCL.out; omega), ⟨hg2.os.trans HB1.out.os, hg2.tape.trans HB1.out.tape, hg2.output.trans HB1.out.output, Nat.le_trans HB1.out.size hg2.size, fun q hq => (hg2.block q (Nat.lt_of_lt_of_le hq HB1.out.size) fun e => by have := HB.out; injection e with e; omega).trans (HB1.out.block q hq)⟩⟩
            clear hM2 hg2 hs2 HJ
            go_wp2_with fail
            exact ⟨⟨0 + 1, joinL cur c 0, by omega, by go_num, HNX.out, HE.out.1, HE.out.2, joinL_ok hH.out.2.2.2.1 HCK.out, setF_up _⟩, by simp [intOf]; omega⟩
          · have hk0I : (0 : Int) < (k : Int) := by omega
            have hk0d : decide ((0 : Int) < (k : Int)) = true := decide_eq_true hk0I
            have HPV : Hid _ := pivot_any HM1.out HSC.out (by have := HCL.out; omega) HCK.out
            obtain ⟨P, hP⟩ : ∃ P, P = pivF (mm cur) c 0 := ⟨_, rfl⟩
            have HPB : Hid (-2147483647 ≤ P.1 ∧ P.1 ≤ 2147483647) := by rw [hP]; exact pivF_b HCK.out (by decide)
            rw [← hP] at HPV HS2
            have HP3 : Hid (Z = if P.2 then goF G D (joinL cur c P.1) false (F.drop (k + 1)) else none) := by unfold Hid; rw [HS2.out, if_neg (by simp [hk0])]
            clear hP HS2
            obtain ⟨p, pk⟩ := P
            go_wp2_with fail
            refine Calls.mono HPV.out ?_
            rintro ev w2 ⟨rfl, hb2⟩
            have HB2 : Hid (Below w.heap.size w w2) := HB1.out.trans (hb2.mono HB1.out.size)
            have HM2 : Hid (Mk w2 b (2000 * k) (mm cur)) := HM1.out.kept (hb2.block _ HM1.out.lt)
            have HSC2 : Hid (Sr w2 (.slice ac nc kc) c) := HSC.out.below hb2
            clear hb2 HPV
            cases pk with
            | false =>
              have HZZ : Hid (Z = none) := by unfold Hid; rw [HP3.out]; rfl
              go_wp2_with fail
              go_ret2
              exact ⟨_, by rw [HZZ.out]; rfl, ⟨⟨_, _, _, rfl⟩⟩, fun r hr => (by rw [HZZ.out] at hr; cases hr), HB2.out⟩
            | true =>
              have HNX : Hid (Z = goF G D (joinL cur c p) (decide (k + 1 = 0)) (F.drop (k + 1))) := by unfold Hid; rw [HP3.out]; simp
              have HJ : Hid _ := join_any HM2.out (by omega) HSC2.out (by have := HCL.out; omega) HCK.out (p := p) HPB.out
              rw [mm_join] at HJ
              go_wp2_with fail
              refine Calls.mono HJ.out ?_
              rintro ev w3 ⟨rfl, hM3, hg3, hs3⟩
              have HE : Hid (Mk w3 b (2000 * (k + 1)) (mm (joinL cur c p)) ∧ Below w.heap.size w w3) := ⟨hM3.mono (by have := HCL.out; omega), ⟨hg3.os.trans HB2.out.os, hg3.tape.trans HB2.out.tape, hg3.output.trans HB2.out.output, Nat.le_trans HB2.out.size hg3.size, fun q hq => (hg3.block q (Nat.lt_of_lt_of_le hq HB2.out.size) fun e => by have := HB.out; injection e with e; omega).trans (HB2.out.block q hq)⟩⟩
              clear hM3 hg3 hs3 HJ
              go_wp2_with fail
              exact ⟨⟨k + 1, joinL cur c p, by omega, by go_num, HNX.out, HE.out.1, HE.out.2, joinL_ok hH.out.2.2.2.1 HCK.out, setF_up _⟩, by simp [intOf]; omega⟩
      · obtain rfl : k = m := by omega
        have hltI : ¬ (k : Int) < (k : Int) := by omega
        have HZZ : Hid (Z = some cur) := by
          unfold Hid; rw [hH.out.1, HN.out, List.drop_length]; rfl
        have HSO : Hid _ := sorted_any hH.out.2.1 (by omega)
        go_wp2_with fail
        refine Calls.mono HSO.out ?_
        rintro ev w2 ⟨us, L, rfl, hI2, hup, hmem, hb2⟩
        have hLc : L = cur := up_ext hup hH.out.2.2.2.2 fun x => by rw [hmem x]; unfold mm; simp
        subst hLc
        have HI2 : Hid (Is' w2 w.heap.size us L ∧ Below w.heap.size w w2) := ⟨own_mono hI2 hH.out.2.2.1.size, hH.out.2.2.1.trans (hb2.mono hH.out.2.2.1.size)⟩
        obtain ⟨a2, n2, k2, hus, -⟩ := own_sl hI2
        subst hus
        clear hI2 hup hmem hb2 HSO
        go_wp2_with fail
        go_ret2
        refine ⟨_, by rw [HZZ.out]; rfl, ⟨⟨_, _, _, rfl⟩⟩, fun r hr => ?_, HI2.out.2⟩
        rw [HZZ.out] at hr
        injection hr with hr
        rw [← hr]; exact HI2.out.1
end Go.Proofs.Ythdgmkjjpmigeaa
