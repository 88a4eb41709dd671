/- Contracts (the document's and-inverter graphs): Eval. -/
import Derived.Test.YtdmochghcmeebaaBH5
namespace Go.Proofs.Ytdmochghcmeebaa
open Go.RowKit
set_option linter.unusedSimpArgs false
set_option linter.unusedVariables false

set_option maxHeartbeats 3200000 in
theorem reval_any {w : World} {F : Nat → Prop} {g mo : Nat} {rs : List Kd} (h : Rg w F g mo rs) {l : Int} (hl : w64 l) {v : Value} {il : List Bool} (hv : Bz w v il) (hm : il.length ≤ 1000) :
    Calls Try.prog 20 #[.pointer (some ⟨g, 0, none⟩), .int .i64 l, v] w fun e w' => e = .returned (.tuple #[.bool (evF ((0, 0) :: rs) l il).1, .int .i64 (evF ((0, 0) :: rs) l il).2]) ∧ Below w.heap.size w w' := by
  have HIS : Hid _ := is_any h hl
  have hlen := h.len
  have HIN : Hid _ := rinputs_any h
  have HVA : Hid (∀ wx, Below w.heap.size w wx → il.length = (insL ((0, 0) :: rs)).length → _) := fun wx hb hn => values_any (h.below hb) (hv.below hb) hn
  have HLN := insL_len ((0, 0) :: rs)
  unfold evF
  rw [show (((0, 0) : Kd) :: rs).length = rs.length + 1 from rfl] at HLN ⊢
  obtain ⟨va, vc, rfl, -⟩ := hv
  obtain ⟨m, em⟩ : ∃ m, m = il.length := ⟨_, rfl⟩
  obtain ⟨M, eM⟩ : ∃ M, M = (insL ((0, 0) :: rs)).length := ⟨_, rfl⟩
  rw [← em] at hm HVA ⊢
  rw [← eM] at HVA HLN ⊢
  cases hb : litB (rs.length + 1) l
  · rw [hb] at HIS
    rw [if_pos rfl]
    clear h HIN HVA
    go_enter Try.func20, Try.ntmps20
    go_wp2_with fail
    refine Calls.mono HIS.out ?_
    rintro e wz ⟨rfl, hw⟩
    rw [hw]
    clear hw wz
    go_wp2_with fail
    refine bodyPost_ret (v := .tuple #[.bool false, .int .i64 80]) (by simp [results, Try.results20, go_sem]) rfl ?_
    exact ⟨rfl, Below.refl _ _⟩
  · rw [hb] at HIS
    rw [if_neg (by decide)]
    have hl2 := litB_iff.1 hb
    by_cases hn : m = M
    · rw [if_neg (fun x => x hn)]
      subst hn
      obtain ⟨L, rfl⟩ : ∃ L : Nat, l = (L : Int) := ⟨l.toNat, by omega⟩
      rw [Int.toNat_natCast, evV_eq]
      obtain ⟨A, eA⟩ : ∃ A, A = L / 2 := ⟨_, rfl⟩
      obtain ⟨fA, efA⟩ : ∃ fA, fA = vN ((0, 0) :: rs) il A := ⟨_, rfl⟩
      rw [lit_at _ L fA (by rw [efA, eA])]
      obtain ⟨z1, ez1⟩ : ∃ z1, z1 = decide (L % 2 = 1) := ⟨_, rfl⟩
      rw [← ez1]
      have u1 : (L : Int).tdiv 2 = (A : Int) := by rw [Int.tdiv_eq_ediv_of_nonneg (by omega)]; omega
      have u3 : wrap64 (A : Int) = (A : Int) := by unfold wrap64; omega
      have u2 : (L : Int) / 2 = (A : Int) := by omega
      have u5 : ((L : Int).tmod 2 == 1) = z1 := by
        rw [ez1, Int.tmod_eq_emod_of_nonneg (by omega), Bool.eq_iff_iff, beq_iff_eq, decide_eq_true_eq]; omega
      have u6 : ((L : Int) % 2 == 1) = z1 := by
        rw [ez1, Bool.eq_iff_iff, beq_iff_eq, decide_eq_true_eq]; omega
      have z : ((m : Int) == (m : Int)) = true := by simp
      have z' : ((m : Int) != (m : Int)) = false := by simp
      obtain ⟨I, eI⟩ : ∃ I, I = rs.length + 1 := ⟨_, rfl⟩
      have hAI : A < I := by omega
      have hAI' : (A : Int) < (I : Int) := by omega
      have HVA2 : Hid (∀ wx, Below w.heap.size w wx → Calls Try.prog 40 #[.pointer (some ⟨g, 0, none⟩), .slice va m vc] wx fun e w' => e = .returned (.slice (some ⟨wx.heap.size, 0, none⟩) I I) ∧ w'.rowIs wx.heap.size 4 I (fun j => .bool (vN ((0, 0) :: rs) il j)) ∧ Below wx.heap.size wx w') := fun wx hb => by rw [eI]; exact HVA.out wx hb rfl
      have HEM : Hid _ := eM
      have HFA : Hid _ := efA
      clear h HVA hb hl hl2 eM em eA efA ez1 eI
      go_enter Try.func20, Try.ntmps20
      go_wp2_with fail
      refine Calls.mono HIS.out ?_
      rintro e wz ⟨rfl, hw⟩
      rw [hw]
      clear hw wz
      go_wp2_with fail
      refine Calls.mono HIN.out ?_
      rintro e w1 ⟨u, rfl, hI, hb1⟩
      obtain ⟨ua, uc, hu, -⟩ := Is'.any hI
      rw [← HEM.out] at hu
      subst hu
      clear hI HIN
      go_wp2_with fail
      refine (HVA2.out _ hb1).mono ?_
      rintro e w2 ⟨rfl, hrow, hb2⟩
      have c1 : w2.cell? ⟨w1.heap.size, A, none⟩ = some (.bool fA) := by rw [HFA.out]; exact hrow.cell hAI
      have hb3 : Below w.heap.size w w2 := below_step hb1 hb2
      clear hrow hb2 HVA2
      go_wp2_with fail
      refine bodyPost_ret (v := .tuple #[.bool (fA != z1), .int .i64 0]) (by simp [results, Try.results20, go_sem]; cases fA <;> cases z1 <;> rfl) rfl ?_
      exact ⟨rfl, hb3⟩
    · rw [if_pos hn]
      have z : ((m : Int) == (M : Int)) = false := by simp; omega
      have z' : ((m : Int) != (M : Int)) = true := by simp; omega
      have HEM : Hid _ := eM
      clear h HVA hb hl hl2 eM em
      go_enter Try.func20, Try.ntmps20
      go_wp2_with fail
      refine Calls.mono HIS.out ?_
      rintro e wz ⟨rfl, hw⟩
      rw [hw]
      clear hw wz
      go_wp2_with fail
      refine Calls.mono HIN.out ?_
      rintro e w1 ⟨u, rfl, hI, hb1⟩
      obtain ⟨ua, uc, hu, -⟩ := Is'.any hI
      rw [← HEM.out] at hu
      subst hu
      clear hI HIN
      go_wp2_with fail
      refine bodyPost_ret (v := .tuple #[.bool false, .int .i64 82]) (by simp [results, Try.results20, go_sem]) rfl ?_
      exact ⟨rfl, hb1⟩
end Go.Proofs.Ytdmochghcmeebaa
