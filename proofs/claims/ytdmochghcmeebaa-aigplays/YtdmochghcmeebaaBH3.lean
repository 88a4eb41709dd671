/- Contracts (the document's and-inverter graphs): Or, Xor, Mux; what a step does. -/
import Derived.Test.YtdmochghcmeebaaBH2
namespace Go.Proofs.Ytdmochghcmeebaa
open Go.RowKit
set_option linter.unusedSimpArgs false
set_option linter.unusedVariables false

theorem bits_tu' {a : Int} (h : w64 a) : bits .xor .i64 a 1 = tu a := by rw [bits_xor, xor_int h.1 h.2]
theorem RDid.rng {w : World} {F : Nat → Prop} {g mo : Nat} {r : Ans} {rs : List Kd} (hq : r.2.2 = (0, 0) :: rs) (hG : Rg w F g mo rs) (h : AnsOk r) : w64 r.1 := by
  have := hG.len
  rcases h with ⟨_, h⟩ | ⟨h, _⟩
  · have := litB_iff.1 h
    rw [hq] at this
    simp only [List.length_cons] at this
    exact ⟨by omega, by omega⟩
  · exact ⟨by omega, by omega⟩
set_option maxHeartbeats 1600000 in
theorem ror_no {w : World} {F : Nat → Prop} {g mo : Nat} {rs : List Kd} (h : Rg w F g mo rs) {a b : Int} (ha : w64 a) (hb : w64 b) (hv : (litB (rs.length + 1) a && litB (rs.length + 1) b) = false) :
    Calls Try.prog 31 #[.pointer (some ⟨g, 0, none⟩), .int .i64 a, .int .i64 b] w fun e w' => e = .returned (.tuple #[.int .i64 0, .int .i64 80]) ∧ Below w.heap.size w w' := by
  have Ha : Hid _ := is_any h ha
  have Hb : Hid _ := is_any h hb
  clear h ha hb
  cases la : litB (rs.length + 1) a
  · rw [la] at Ha
    clear hv
    go_enter Try.func31, Try.ntmps31
    go_wp2_with fail
    refine Calls.mono Ha.out ?_
    rintro e wz ⟨rfl, hw⟩
    rw [hw]
    clear hw wz
    go_wp2_with fail
    refine bodyPost_ret (v := .tuple #[.int .i64 0, .int .i64 80]) (by simp [results, Try.results31, go_sem]) rfl ?_
    exact ⟨rfl, Below.refl _ _⟩
  · rw [la] at Ha hv
    cases lb : litB (rs.length + 1) b
    · rw [lb] at Hb
      clear hv
      go_enter Try.func31, Try.ntmps31
      go_wp2_with fail
      refine Calls.mono Ha.out ?_
      rintro e wz ⟨rfl, hw⟩
      rw [hw]
      clear hw wz
      go_wp2_with fail
      refine Calls.mono Hb.out ?_
      rintro e wz ⟨rfl, hw⟩
      rw [hw]
      clear hw wz
      go_wp2_with fail
      refine bodyPost_ret (v := .tuple #[.int .i64 0, .int .i64 80]) (by simp [results, Try.results31, go_sem]) rfl ?_
      exact ⟨rfl, Below.refl _ _⟩
    · rw [lb] at Hb hv
      exact absurd hv (by simp)
set_option maxHeartbeats 1600000 in
theorem rxor_no {w : World} {F : Nat → Prop} {g mo : Nat} {rs : List Kd} (h : Rg w F g mo rs) {a b : Int} (ha : w64 a) (hb : w64 b) (hv : (litB (rs.length + 1) a && litB (rs.length + 1) b) = false) :
    Calls Try.prog 32 #[.pointer (some ⟨g, 0, none⟩), .int .i64 a, .int .i64 b] w fun e w' => e = .returned (.tuple #[.int .i64 0, .int .i64 80]) ∧ Below w.heap.size w w' := by
  have Ha : Hid _ := is_any h ha
  have Hb : Hid _ := is_any h hb
  clear h ha hb
  cases la : litB (rs.length + 1) a
  · rw [la] at Ha
    clear hv
    go_enter Try.func32, Try.ntmps32
    go_wp2_with fail
    refine Calls.mono Ha.out ?_
    rintro e wz ⟨rfl, hw⟩
    rw [hw]
    clear hw wz
    go_wp2_with fail
    refine bodyPost_ret (v := .tuple #[.int .i64 0, .int .i64 80]) (by simp [results, Try.results32, go_sem]) rfl ?_
    exact ⟨rfl, Below.refl _ _⟩
  · rw [la] at Ha hv
    cases lb : litB (rs.length + 1) b
    · rw [lb] at Hb
      clear hv
      go_enter Try.func32, Try.ntmps32
      go_wp2_with fail
      refine Calls.mono Ha.out ?_
      rintro e wz ⟨rfl, hw⟩
      rw [hw]
      clear hw wz
      go_wp2_with fail
      refine Calls.mono Hb.out ?_
      rintro e wz ⟨rfl, hw⟩
      rw [hw]
      clear hw wz
      go_wp2_with fail
      refine bodyPost_ret (v := .tuple #[.int .i64 0, .int .i64 80]) (by simp [results, Try.results32, go_sem]) rfl ?_
      exact ⟨rfl, Below.refl _ _⟩
    · rw [lb] at Hb hv
      exact absurd hv (by simp)
set_option maxHeartbeats 1600000 in
theorem rmux_no {w : World} {F : Nat → Prop} {g mo : Nat} {rs : List Kd} (h : Rg w F g mo rs) {c a b : Int} (hc : w64 c) (ha : w64 a) (hb : w64 b) (hv : (litB (rs.length + 1) a && litB (rs.length + 1) b && litB (rs.length + 1) c) = false) :
    Calls Try.prog 33 #[.pointer (some ⟨g, 0, none⟩), .int .i64 c, .int .i64 a, .int .i64 b] w fun e w' => e = .returned (.tuple #[.int .i64 0, .int .i64 80]) ∧ Below w.heap.size w w' := by
  have Ha : Hid _ := is_any h ha
  have Hb : Hid _ := is_any h hb
  have Hc : Hid _ := is_any h hc
  clear h hc ha hb
  cases la : litB (rs.length + 1) a
  · rw [la] at Ha
    clear hv
    go_enter Try.func33, Try.ntmps33
    go_wp2_with fail
    refine Calls.mono Ha.out ?_
    rintro e wz ⟨rfl, hw⟩
    rw [hw]
    clear hw wz
    go_wp2_with fail
    refine bodyPost_ret (v := .tuple #[.int .i64 0, .int .i64 80]) (by simp [results, Try.results33, go_sem]) rfl ?_
    exact ⟨rfl, Below.refl _ _⟩
  · rw [la] at Ha hv
    cases lb : litB (rs.length + 1) b
    · rw [lb] at Hb
      clear hv
      go_enter Try.func33, Try.ntmps33
      go_wp2_with fail
      refine Calls.mono Ha.out ?_
      rintro e wz ⟨rfl, hw⟩
      rw [hw]
      clear hw wz
      go_wp2_with fail
      refine Calls.mono Hb.out ?_
      rintro e wz ⟨rfl, hw⟩
      rw [hw]
      clear hw wz
      go_wp2_with fail
      refine bodyPost_ret (v := .tuple #[.int .i64 0, .int .i64 80]) (by simp [results, Try.results33, go_sem]) rfl ?_
      exact ⟨rfl, Below.refl _ _⟩
    · rw [lb] at Hb hv
      cases lc : litB (rs.length + 1) c
      · rw [lc] at Hc
        clear hv
        go_enter Try.func33, Try.ntmps33
        go_wp2_with fail
        refine Calls.mono Ha.out ?_
        rintro e wz ⟨rfl, hw⟩
        rw [hw]
        clear hw wz
        go_wp2_with fail
        refine Calls.mono Hb.out ?_
        rintro e wz ⟨rfl, hw⟩
        rw [hw]
        clear hw wz
        go_wp2_with fail
        refine Calls.mono Hc.out ?_
        rintro e wz ⟨rfl, hw⟩
        rw [hw]
        clear hw wz
        go_wp2_with fail
        refine bodyPost_ret (v := .tuple #[.int .i64 0, .int .i64 80]) (by simp [results, Try.results33, go_sem]) rfl ?_
        exact ⟨rfl, Below.refl _ _⟩
      · rw [lc] at Hc hv
        exact absurd hv (by simp)
set_option maxHeartbeats 3200000 in
theorem ror_any {w : World} {F : Nat → Prop} {g mo : Nat} {rs : List Kd} (h : Rg w F g mo rs) {a b : Int} (ha : w64 a) (hb : w64 b) :
    Calls Try.prog 31 #[.pointer (some ⟨g, 0, none⟩), .int .i64 a, .int .i64 b] w (RDid w F g mo (orF mo ((0, 0) :: rs) a b)) := by
  cases hv : (litB (rs.length + 1) a && litB (rs.length + 1) b)
  · have e : orF mo ((0, 0) :: rs) a b = (0, 80, (0, 0) :: rs) := by
      unfold orF andF
      rw [tu_lit, tu_lit, show (((0, 0) : Kd) :: rs).length = rs.length + 1 from rfl, hv]; rfl
    rw [e]
    exact (ror_no h ha hb hv).mono fun e w' hb => RDid.of_below h hb
  rw [Bool.and_eq_true] at hv
  have Ha : Hid _ := is_any h ha
  have Hb : Hid _ := is_any h hb
  rw [hv.1] at Ha
  rw [hv.2] at Hb
  have HA : Hid _ := rand_any h (tu_w64 ha) (tu_w64 hb)
  have HOK : Hid _ := and_ok (mo := mo) h.inv.pos (tu a) (tu b)
  obtain ⟨R, hR⟩ : ∃ R, R = andF mo ((0, 0) :: rs) (tu a) (tu b) := ⟨_, rfl⟩
  have HOR : Hid (orF mo ((0, 0) :: rs) a b = if R.2.1 = 0 then (tu R.1, 0, R.2.2) else (0, R.2.1, R.2.2)) := by unfold Hid orF; rw [← hR]
  rw [← hR] at HA HOK
  have X1 := bits_tu' ha
  have X2 := bits_tu' hb
  obtain ⟨A, hA⟩ : ∃ A, A = tu a := ⟨_, rfl⟩
  obtain ⟨B, hB⟩ : ∃ B, B = tu b := ⟨_, rfl⟩
  rw [← hA] at X1 HA
  rw [← hB] at X2 HA
  clear h ha hb hR hA hB hv
  go_enter Try.func31, Try.ntmps31
  go_wp2_with fail
  refine Calls.mono Ha.out ?_
  rintro e wz ⟨rfl, hw⟩
  rw [hw]
  clear hw wz
  go_wp2_with fail
  refine Calls.mono Hb.out ?_
  rintro e wz ⟨rfl, hw⟩
  rw [hw]
  clear hw wz
  go_wp2_with fail
  refine Calls.mono HA.out ?_
  rintro e w1 ⟨rfl, F', rs', hq, hG, hC⟩
  have hr := RDid.rng hq hG HOK.out
  have HQ : Hid _ := And.intro hq (And.intro hG hC)
  clear hq hG hC HA HOK Ha Hb
  obtain ⟨l, er, ks'⟩ := R
  dsimp only at HOR HQ hr ⊢
  by_cases he : er = 0
  · have HE : Hid (orF mo ((0, 0) :: rs) a b = (tu l, 0, ks')) := by unfold Hid; rw [HOR.out, if_pos he]
    subst he
    have X3 := bits_tu' hr
    obtain ⟨L, hL⟩ : ∃ L, L = tu l := ⟨_, rfl⟩
    rw [← hL] at X3 HE
    clear HOR hL hr
    go_wp2_with fail
    refine bodyPost_ret (v := .tuple #[.int .i64 L, .int .i64 0]) (by simp [results, Try.results31, go_sem]) rfl ?_
    rw [HE.out]
    exact ⟨rfl, F', rs', HQ.out⟩
  · have HE : Hid (orF mo ((0, 0) :: rs) a b = (0, er, ks')) := by unfold Hid; rw [HOR.out, if_neg he]
    have z : (er == 0) = false := by simp [he]
    have z' : (er != 0) = true := by simp [he]
    clear HOR hr
    go_wp2_with fail
    refine bodyPost_ret (v := .tuple #[.int .i64 0, .int .i64 er]) (by simp [results, Try.results31, go_sem]) rfl ?_
    rw [HE.out]
    exact ⟨rfl, F', rs', HQ.out⟩
set_option maxHeartbeats 6400000 in
theorem rxor_any {w : World} {F : Nat → Prop} {g mo : Nat} {rs : List Kd} (h : Rg w F g mo rs) {a b : Int} (ha : w64 a) (hb : w64 b) :
    Calls Try.prog 32 #[.pointer (some ⟨g, 0, none⟩), .int .i64 a, .int .i64 b] w (RDid w F g mo (xorF mo ((0, 0) :: rs) a b)) := by
  cases hv : (litB (rs.length + 1) a && litB (rs.length + 1) b)
  · have e : xorF mo ((0, 0) :: rs) a b = (0, 80, (0, 0) :: rs) := by
      unfold xorF muxF
      rw [if_neg]
      rw [show (((0, 0) : Kd) :: rs).length = rs.length + 1 from rfl, tu_lit]
      intro q
      simp only [Bool.and_eq_true] at q
      rw [q.1.1, q.2] at hv
      cases hv
    rw [e]
    exact (rxor_no h ha hb hv).mono fun e w' hb => RDid.of_below h hb
  simp only [Bool.and_eq_true] at hv
  have Ha : Hid _ := is_any h ha
  have Hb : Hid _ := is_any h hb
  rw [hv.1] at Ha
  rw [hv.2] at Hb
  have HA : Hid _ := rand_any h ha (tu_w64 hb)
  have HOK : Hid _ := and_ok (mo := mo) h.inv.pos a (tu b)
  obtain ⟨R, hR⟩ : ∃ R, R = andF mo ((0, 0) :: rs) a (tu b) := ⟨_, rfl⟩
  have HMX : Hid (xorF mo ((0, 0) :: rs) a b = if R.2.1 = 0 then (if (andF mo R.2.2 (tu a) b).2.1 = 0 then orF mo (andF mo R.2.2 (tu a) b).2.2 R.1 (andF mo R.2.2 (tu a) b).1 else (0, (andF mo R.2.2 (tu a) b).2.1, (andF mo R.2.2 (tu a) b).2.2)) else (0, R.2.1, R.2.2)) := by
    unfold Hid xorF muxF
    rw [if_pos (by rw [show (((0, 0) : Kd) :: rs).length = rs.length + 1 from rfl]; simp [tu_lit, hv]), ← hR]
  rw [← hR] at HA HOK
  have X1 := bits_tu' ha
  obtain ⟨C, hC0⟩ : ∃ C, C = tu a := ⟨_, rfl⟩
  rw [← hC0] at X1 HMX
  have HCW : Hid (w64 C) := by unfold Hid; rw [hC0]; exact tu_w64 ha
  have HBW : Hid _ := hb
  have X2 := bits_tu' hb
  obtain ⟨B1, hB1⟩ : ∃ B1, B1 = tu b := ⟨_, rfl⟩
  rw [← hB1] at X2 HA
  clear hB1
  clear h ha hb hR hC0 hv
  go_enter Try.func32, Try.ntmps32
  go_wp2_with fail
  refine Calls.mono Ha.out ?_
  rintro e wz ⟨rfl, hw⟩
  rw [hw]
  clear hw wz
  go_wp2_with fail
  refine Calls.mono Hb.out ?_
  rintro e wz ⟨rfl, hw⟩
  rw [hw]
  clear hw wz
  go_wp2_with fail
  refine Calls.mono HA.out ?_
  rintro e w1 ⟨rfl, F', rs1, hq, hG, hC⟩
  have HL1 : Hid _ := RDid.rng hq hG HOK.out
  have HG : Hid _ := hG
  have HC : Hid _ := hC
  have HQ1 : Hid _ := hq
  clear hG hC HA HOK hq Ha Hb
  obtain ⟨l, er, ks1⟩ := R
  dsimp only at HMX HG HC HL1 HQ1 ⊢
  by_cases he : er = 0
  · rw [if_pos he] at HMX
    subst he
    rw [HQ1.out] at HMX
    have HA2 : Hid _ := rand_any HG.out HCW.out HBW.out
    have HOK2 : Hid _ := and_ok (mo := mo) (Rg.inv HG.out).pos C b
    obtain ⟨R2, hR2⟩ : ∃ R2, R2 = andF mo ((0, 0) :: rs1) C b := ⟨_, rfl⟩
    rw [← hR2] at HA2 HOK2 HMX
    clear hR2
    go_wp2_with fail
    refine Calls.mono HA2.out ?_
    rintro e w2 ⟨rfl, F2, rs2, hq, hG, hC⟩
    have HL2 : Hid _ := RDid.rng hq hG HOK2.out
    have HG2 : Hid _ := hG
    have HC2 : Hid _ := Ch.trans HC.out hC
    have HQ2 : Hid _ := hq
    clear hG hC HA2 HOK2 HC HG hq
    obtain ⟨m, er2, ks2⟩ := R2
    dsimp only at HMX HG2 HC2 HL2 HQ2 ⊢
    by_cases he2 : er2 = 0
    · rw [if_pos he2] at HMX
      subst he2
      rw [HQ2.out] at HMX
      have HO : Hid _ := ror_any HG2.out HL1.out HL2.out
      obtain ⟨R3, hR3⟩ : ∃ R3, R3 = orF mo ((0, 0) :: rs2) l m := ⟨_, rfl⟩
      rw [← hR3] at HO HMX
      clear hR3
      go_wp2_with fail
      refine Calls.mono HO.out ?_
      rintro e w3 ⟨rfl, F3, rs3, hq, hG, hC⟩
      have HQ3 : Hid _ := And.intro hq (And.intro hG (Ch.trans HC2.out hC))
      clear hG hC HO HC2 HG2 hq
      obtain ⟨q, er3, ks3⟩ := R3
      dsimp only at HMX HQ3 ⊢
      go_wp2_with fail
      refine bodyPost_ret (v := .tuple #[.int .i64 q, .int .i64 er3]) (by simp [results, Try.results32, go_sem]) rfl ?_
      rw [HMX.out]
      exact ⟨rfl, F3, rs3, HQ3.out⟩
    · rw [if_neg he2] at HMX
      have z : (er2 == 0) = false := by simp [he2]
      have z' : (er2 != 0) = true := by simp [he2]
      go_wp2_with fail
      refine bodyPost_ret (v := .tuple #[.int .i64 0, .int .i64 er2]) (by simp [results, Try.results32, go_sem]) rfl ?_
      rw [HMX.out]
      exact ⟨rfl, F2, rs2, HQ2.out, HG2.out, HC2.out⟩
  · rw [if_neg he] at HMX
    have z : (er == 0) = false := by simp [he]
    have z' : (er != 0) = true := by simp [he]
    go_wp2_with fail
    refine bodyPost_ret (v := .tuple #[.int .i64 0, .int .i64 er]) (by simp [results, Try.results32, go_sem]) rfl ?_
    rw [HMX.out]
    exact ⟨rfl, F', rs1, HQ1.out, HG.out, HC.out⟩
set_option maxHeartbeats 6400000 in
theorem rmux_any {w : World} {F : Nat → Prop} {g mo : Nat} {rs : List Kd} (h : Rg w F g mo rs) {c a b : Int} (hc : w64 c) (ha : w64 a) (hb : w64 b) :
    Calls Try.prog 33 #[.pointer (some ⟨g, 0, none⟩), .int .i64 c, .int .i64 a, .int .i64 b] w (RDid w F g mo (muxF mo ((0, 0) :: rs) c a b)) := by
  cases hv : (litB (rs.length + 1) a && litB (rs.length + 1) b && litB (rs.length + 1) c)
  · have e : muxF mo ((0, 0) :: rs) c a b = (0, 80, (0, 0) :: rs) := by
      unfold muxF
      rw [if_neg]
      rw [show (((0, 0) : Kd) :: rs).length = rs.length + 1 from rfl]
      intro q
      simp only [Bool.and_eq_true] at q
      rw [q.1.1, q.1.2, q.2] at hv
      cases hv
    rw [e]
    exact (rmux_no h hc ha hb hv).mono fun e w' hb => RDid.of_below h hb
  simp only [Bool.and_eq_true] at hv
  have Ha : Hid _ := is_any h ha
  have Hb : Hid _ := is_any h hb
  have Hc : Hid _ := is_any h hc
  rw [hv.1.1] at Ha
  rw [hv.1.2] at Hb
  rw [hv.2] at Hc
  have HA : Hid _ := rand_any h hc ha
  have HOK : Hid _ := and_ok (mo := mo) h.inv.pos c (a)
  obtain ⟨R, hR⟩ : ∃ R, R = andF mo ((0, 0) :: rs) c (a) := ⟨_, rfl⟩
  have HMX : Hid (muxF mo ((0, 0) :: rs) c a b = if R.2.1 = 0 then (if (andF mo R.2.2 (tu c) b).2.1 = 0 then orF mo (andF mo R.2.2 (tu c) b).2.2 R.1 (andF mo R.2.2 (tu c) b).1 else (0, (andF mo R.2.2 (tu c) b).2.1, (andF mo R.2.2 (tu c) b).2.2)) else (0, R.2.1, R.2.2)) := by
    unfold Hid muxF
    rw [if_pos (by rw [show (((0, 0) : Kd) :: rs).length = rs.length + 1 from rfl]; simp [tu_lit, hv]), ← hR]
  rw [← hR] at HA HOK
  have X1 := bits_tu' hc
  obtain ⟨C, hC0⟩ : ∃ C, C = tu c := ⟨_, rfl⟩
  rw [← hC0] at X1 HMX
  have HCW : Hid (w64 C) := by unfold Hid; rw [hC0]; exact tu_w64 hc
  have HBW : Hid _ := hb
  clear h hc ha hb hR hC0 hv
  go_enter Try.func33, Try.ntmps33
  go_wp2_with fail
  refine Calls.mono Ha.out ?_
  rintro e wz ⟨rfl, hw⟩
  rw [hw]
  clear hw wz
  go_wp2_with fail
  refine Calls.mono Hb.out ?_
  rintro e wz ⟨rfl, hw⟩
  rw [hw]
  clear hw wz
  go_wp2_with fail
  refine Calls.mono Hc.out ?_
  rintro e wz ⟨rfl, hw⟩
  rw [hw]
  clear hw wz
  go_wp2_with fail
  refine Calls.mono HA.out ?_
  rintro e w1 ⟨rfl, F', rs1, hq, hG, hC⟩
  have HL1 : Hid _ := RDid.rng hq hG HOK.out
  have HG : Hid _ := hG
  have HC : Hid _ := hC
  have HQ1 : Hid _ := hq
  clear hG hC HA HOK hq Ha Hb Hc
  obtain ⟨l, er, ks1⟩ := R
  dsimp only at HMX HG HC HL1 HQ1 ⊢
  by_cases he : er = 0
  · rw [if_pos he] at HMX
    subst he
    rw [HQ1.out] at HMX
    have HA2 : Hid _ := rand_any HG.out HCW.out HBW.out
    have HOK2 : Hid _ := and_ok (mo := mo) (Rg.inv HG.out).pos C b
    obtain ⟨R2, hR2⟩ : ∃ R2, R2 = andF mo ((0, 0) :: rs1) C b := ⟨_, rfl⟩
    rw [← hR2] at HA2 HOK2 HMX
    clear hR2
    go_wp2_with fail
    refine Calls.mono HA2.out ?_
    rintro e w2 ⟨rfl, F2, rs2, hq, hG, hC⟩
    have HL2 : Hid _ := RDid.rng hq hG HOK2.out
    have HG2 : Hid _ := hG
    have HC2 : Hid _ := Ch.trans HC.out hC
    have HQ2 : Hid _ := hq
    clear hG hC HA2 HOK2 HC HG hq
    obtain ⟨m, er2, ks2⟩ := R2
    dsimp only at HMX HG2 HC2 HL2 HQ2 ⊢
    by_cases he2 : er2 = 0
    · rw [if_pos he2] at HMX
      subst he2
      rw [HQ2.out] at HMX
      have HO : Hid _ := ror_any HG2.out HL1.out HL2.out
      obtain ⟨R3, hR3⟩ : ∃ R3, R3 = orF mo ((0, 0) :: rs2) l m := ⟨_, rfl⟩
      rw [← hR3] at HO HMX
      clear hR3
      go_wp2_with fail
      refine Calls.mono HO.out ?_
      rintro e w3 ⟨rfl, F3, rs3, hq, hG, hC⟩
      have HQ3 : Hid _ := And.intro hq (And.intro hG (Ch.trans HC2.out hC))
      clear hG hC HO HC2 HG2 hq
      obtain ⟨q, er3, ks3⟩ := R3
      dsimp only at HMX HQ3 ⊢
      go_wp2_with fail
      refine bodyPost_ret (v := .tuple #[.int .i64 q, .int .i64 er3]) (by simp [results, Try.results33, go_sem]) rfl ?_
      rw [HMX.out]
      exact ⟨rfl, F3, rs3, HQ3.out⟩
    · rw [if_neg he2] at HMX
      have z : (er2 == 0) = false := by simp [he2]
      have z' : (er2 != 0) = true := by simp [he2]
      go_wp2_with fail
      refine bodyPost_ret (v := .tuple #[.int .i64 0, .int .i64 er2]) (by simp [results, Try.results33, go_sem]) rfl ?_
      rw [HMX.out]
      exact ⟨rfl, F2, rs2, HQ2.out, HG2.out, HC2.out⟩
  · rw [if_neg he] at HMX
    have z : (er == 0) = false := by simp [he]
    have z' : (er != 0) = true := by simp [he]
    go_wp2_with fail
    refine bodyPost_ret (v := .tuple #[.int .i64 0, .int .i64 er]) (by simp [results, Try.results33, go_sem]) rfl ?_
    rw [HMX.out]
    exact ⟨rfl, F', rs1, HQ1.out, HG.out, HC.out⟩
set_option maxHeartbeats 6400000 in
theorem rdoes_any {w : World} {F : Nat → Prop} {g mo : Nat} {rs : List Kd} (h : Rg w F g mo rs) {what a b c : Int} (ha : w64 a) (hb : w64 b) (hc : w64 c) :
    Calls Try.prog 12 #[.pointer (some ⟨g, 0, none⟩), .int .i64 what, .int .i64 a, .int .i64 b, .int .i64 c] w (RDid w F g mo (doF mo ((0, 0) :: rs) what a b c)) := by
  have HI : Hid _ := rinp_any h
  have HA : Hid _ := rand_any h ha hb
  have HO : Hid _ := ror_any h ha hb
  have HX : Hid _ := rxor_any h ha hb
  have HM : Hid _ := rmux_any h hc ha hb
  have HG : Hid _ := h
  clear h ha hb hc
  unfold doF
  by_cases h0 : what = 0
  · subst h0
    rw [if_pos rfl]
    obtain ⟨R, hR⟩ : ∃ R, R = inpF mo ((0, 0) :: rs) := ⟨_, rfl⟩
    rw [← hR] at HI ⊢
    clear hR
    go_enter Try.func12, Try.ntmps12
    go_wp2_with fail
    refine Calls.mono HI.out ?_
    rintro e w1 ⟨rfl, F', rs1, hq, hG, hC⟩
    have HG1 : Hid _ := And.intro hq hG
    have HC1 : Hid _ := hC
    clear hG hC hq HI HA HO HX HM
    obtain ⟨q, er, ks1⟩ := R
    dsimp only at HG1 HC1 ⊢
    go_wp2_with fail
    refine bodyPost_ret (v := .tuple #[.int .i64 q, .int .i64 er]) (by simp [results, Try.results12, go_sem]) rfl ?_
    exact ⟨rfl, F', rs1, HG1.out.1, HG1.out.2, HC1.out⟩
  by_cases h1 : what = 1
  · subst h1
    rw [if_neg (by decide), if_pos (by decide)]
    obtain ⟨R, hR⟩ : ∃ R, R = andF mo ((0, 0) :: rs) a b := ⟨_, rfl⟩
    rw [← hR] at HA ⊢
    clear hR
    go_enter Try.func12, Try.ntmps12
    go_wp2_with fail
    refine Calls.mono HA.out ?_
    rintro e w1 ⟨rfl, F', rs1, hq, hG, hC⟩
    have HG1 : Hid _ := And.intro hq hG
    have HC1 : Hid _ := hC
    clear hG hC hq HI HA HO HX HM
    obtain ⟨q, er, ks1⟩ := R
    dsimp only at HG1 HC1 ⊢
    go_wp2_with fail
    refine bodyPost_ret (v := .tuple #[.int .i64 q, .int .i64 er]) (by simp [results, Try.results12, go_sem]) rfl ?_
    exact ⟨rfl, F', rs1, HG1.out.1, HG1.out.2, HC1.out⟩
  by_cases h2 : what = 2
  · subst h2
    rw [if_neg (by decide), if_pos (by decide)]
    obtain ⟨R, hR⟩ : ∃ R, R = andF mo ((0, 0) :: rs) a b := ⟨_, rfl⟩
    rw [← hR] at HA ⊢
    clear hR
    go_enter Try.func12, Try.ntmps12
    go_wp2_with fail
    refine Calls.mono HA.out ?_
    rintro e w1 ⟨rfl, F', rs1, hq, hG, hC⟩
    have HG1 : Hid _ := And.intro hq hG
    have HC1 : Hid _ := hC
    clear hG hC hq HI HA HO HX HM
    obtain ⟨q, er, ks1⟩ := R
    dsimp only at HG1 HC1 ⊢
    go_wp2_with fail
    refine bodyPost_ret (v := .tuple #[.int .i64 q, .int .i64 er]) (by simp [results, Try.results12, go_sem]) rfl ?_
    exact ⟨rfl, F', rs1, HG1.out.1, HG1.out.2, HC1.out⟩
  by_cases h3 : what = 3
  · subst h3
    rw [if_neg (by decide), if_pos (by decide)]
    obtain ⟨R, hR⟩ : ∃ R, R = andF mo ((0, 0) :: rs) a b := ⟨_, rfl⟩
    rw [← hR] at HA ⊢
    clear hR
    go_enter Try.func12, Try.ntmps12
    go_wp2_with fail
    refine Calls.mono HA.out ?_
    rintro e w1 ⟨rfl, F', rs1, hq, hG, hC⟩
    have HG1 : Hid _ := And.intro hq hG
    have HC1 : Hid _ := hC
    clear hG hC hq HI HA HO HX HM
    obtain ⟨q, er, ks1⟩ := R
    dsimp only at HG1 HC1 ⊢
    go_wp2_with fail
    refine bodyPost_ret (v := .tuple #[.int .i64 q, .int .i64 er]) (by simp [results, Try.results12, go_sem]) rfl ?_
    exact ⟨rfl, F', rs1, HG1.out.1, HG1.out.2, HC1.out⟩
  by_cases h4 : what = 4
  · subst h4
    rw [if_neg (by decide), if_neg (by decide), if_pos rfl]
    obtain ⟨R, hR⟩ : ∃ R, R = orF mo ((0, 0) :: rs) a b := ⟨_, rfl⟩
    rw [← hR] at HO ⊢
    clear hR
    go_enter Try.func12, Try.ntmps12
    go_wp2_with fail
    refine Calls.mono HO.out ?_
    rintro e w1 ⟨rfl, F', rs1, hq, hG, hC⟩
    have HG1 : Hid _ := And.intro hq hG
    have HC1 : Hid _ := hC
    clear hG hC hq HI HA HO HX HM
    obtain ⟨q, er, ks1⟩ := R
    dsimp only at HG1 HC1 ⊢
    go_wp2_with fail
    refine bodyPost_ret (v := .tuple #[.int .i64 q, .int .i64 er]) (by simp [results, Try.results12, go_sem]) rfl ?_
    exact ⟨rfl, F', rs1, HG1.out.1, HG1.out.2, HC1.out⟩
  by_cases h5 : what = 5
  · subst h5
    rw [if_neg (by decide), if_neg (by decide), if_neg (by decide), if_pos rfl]
    obtain ⟨R, hR⟩ : ∃ R, R = xorF mo ((0, 0) :: rs) a b := ⟨_, rfl⟩
    rw [← hR] at HX ⊢
    clear hR
    go_enter Try.func12, Try.ntmps12
    go_wp2_with fail
    refine Calls.mono HX.out ?_
    rintro e w1 ⟨rfl, F', rs1, hq, hG, hC⟩
    have HG1 : Hid _ := And.intro hq hG
    have HC1 : Hid _ := hC
    clear hG hC hq HI HA HO HX HM
    obtain ⟨q, er, ks1⟩ := R
    dsimp only at HG1 HC1 ⊢
    go_wp2_with fail
    refine bodyPost_ret (v := .tuple #[.int .i64 q, .int .i64 er]) (by simp [results, Try.results12, go_sem]) rfl ?_
    exact ⟨rfl, F', rs1, HG1.out.1, HG1.out.2, HC1.out⟩
  by_cases h6 : what = 6
  · subst h6
    rw [if_neg (by decide), if_neg (by decide), if_neg (by decide), if_neg (by decide), if_pos rfl]
    obtain ⟨R, hR⟩ : ∃ R, R = muxF mo ((0, 0) :: rs) c a b := ⟨_, rfl⟩
    rw [← hR] at HM ⊢
    clear hR
    go_enter Try.func12, Try.ntmps12
    go_wp2_with fail
    refine Calls.mono HM.out ?_
    rintro e w1 ⟨rfl, F', rs1, hq, hG, hC⟩
    have HG1 : Hid _ := And.intro hq hG
    have HC1 : Hid _ := hC
    clear hG hC hq HI HA HO HX HM
    obtain ⟨q, er, ks1⟩ := R
    dsimp only at HG1 HC1 ⊢
    go_wp2_with fail
    refine bodyPost_ret (v := .tuple #[.int .i64 q, .int .i64 er]) (by simp [results, Try.results12, go_sem]) rfl ?_
    exact ⟨rfl, F', rs1, HG1.out.1, HG1.out.2, HC1.out⟩
  rw [if_neg h0, if_neg (by omega), if_neg h4, if_neg h5, if_neg h6]
  have z0 : (what == 0) = false := by simp [h0]
  have z1 : (what == 1) = false := by simp [h1]
  have z2 : (what == 2) = false := by simp [h2]
  have z3 : (what == 3) = false := by simp [h3]
  have z4 : (what == 4) = false := by simp [h4]
  have z5 : (what == 5) = false := by simp [h5]
  have z6 : (what == 6) = false := by simp [h6]
  clear HI HA HO HX HM h0 h1 h2 h3 h4 h5 h6
  go_enter Try.func12, Try.ntmps12
  go_wp2_with fail
  refine bodyPost_ret (v := .tuple #[.int .i64 0, .int .i64 0]) (by simp [results, Try.results12, go_sem]) rfl ?_
  exact ⟨rfl, F, rs, rfl, HG.out, Ch.refl _ _⟩
end Go.Proofs.Ytdmochghcmeebaa
