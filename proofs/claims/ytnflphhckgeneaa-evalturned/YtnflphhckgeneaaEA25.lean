/- The walk of EvalTurned: whatever is handed in. -/
import Derived.Test.YtnflphhckgeneaaEA22
import Derived.Test.YtnflphhckgeneaaEA23
import Derived.Test.YtnflphhckgeneaaEA24
import Derived.Test.YtnflphhckgeneaaMg1
namespace Go.Proofs.Ytnflphhckgeneaa
open Go.RowKit
set_option linter.unusedSimpArgs false
set_option linter.unusedVariables false

theorem walk_turned (op aw al ah bw bl bh cw cl ch : Int) (_ : (Lit.int .i64 op).wf = true) (_ : (Lit.int .i64 aw).wf = true) (w1 : (Lit.int .u64 al).wf = true) (w2 : (Lit.int .u64 ah).wf = true)
    (_ : (Lit.int .i64 bw).wf = true) (w3 : (Lit.int .u64 bl).wf = true) (w4 : (Lit.int .u64 bh).wf = true) (_ : (Lit.int .i64 cw).wf = true) (w5 : (Lit.int .u64 cl).wf = true) (w6 : (Lit.int .u64 ch).wf = true) (w : World) :
    Calls Try.prog 3 #[.int .i64 op, .agg #[.int .i64 aw, .int .u64 al, .int .u64 ah], .agg #[.int .i64 bw, .int .u64 bl, .int .u64 bh], .agg #[.int .i64 cw, .int .u64 cl, .int .u64 ch]] w fun e w' => e = .returned (.bool true) ∧ Below w.heap.size w w' := by
  obtain ⟨p1, q1⟩ := lit_u64 w1
  obtain ⟨p2, q2⟩ := lit_u64 w2
  obtain ⟨p3, q3⟩ := lit_u64 w3
  obtain ⟨p4, q4⟩ := lit_u64 w4
  obtain ⟨p5, q5⟩ := lit_u64 w5
  obtain ⟨p6, q6⟩ := lit_u64 w6
  have ha : Bk ⟨aw, al, ah⟩ := ⟨p1, q1, p2, q2⟩
  have hb : Bk ⟨bw, bl, bh⟩ := ⟨p3, q3, p4, q4⟩
  have hc : Bk ⟨cw, cl, ch⟩ := ⟨p5, q5, p6, q6⟩
  have hm : bits .and .u64 cl 1 = cl % 2 := by
    have h := and_mask (x := cl.toNat) (k := 1) (by omega) (by decide)
    rw [Int.toNat_of_nonneg p5] at h
    have h2 : ((cl.toNat % 2 ^ 1 : Nat) : Int) = cl % 2 := by omega
    rw [h2] at h
    exact h
  have hm2 : cl % 2 = 0 ∨ cl % 2 = 1 := by omega
  have hd : Bk ⟨0, 1 - cl % 2, 0⟩ := ⟨by show 0 ≤ 1 - cl % 2; omega, by show 1 - cl % 2 < _; omega, by show (0 : Int) ≤ 0; decide, by show (0 : Int) < 18446744073709551616; decide⟩
  obtain ⟨r1, e1, HI, h1⟩ := ite_any hc ha hb
  obtain ⟨r2, e2, HJ, h2⟩ := ite_any hd hb ha
  have HE : Hid ((e1 = 0 ∧ e2 = 0 ∧ r1 = r2 ∧ ((cl = 1 ∧ r1 = ⟨aw, al, ah⟩) ∨ (cl = 0 ∧ r1 = ⟨bw, bl, bh⟩))) ∨ e1 = 30) := by
    rcases h1 with ⟨h10, hr, hs0, hs1, hs2, hs3⟩ | ⟨h10, -⟩
    · left
      obtain ⟨hw0, hl, hh⟩ := bool_of hs0
      simp only at hw0 hl hh
      subst hw0 hh
      have hsd : sof ⟨0, 1 - cl % 2, 0⟩ = 0 := by rcases hl with rfl | rfl <;> decide
      rcases h2 with ⟨h20, hr2, -⟩ | ⟨h20, hn⟩
      · refine ⟨h10, h20, ?_, ?_⟩
        · rw [hr, hr2]
          rcases hl with rfl | rfl <;> rfl
        · rw [hr]
          rcases hl with rfl | rfl
          · exact Or.inr ⟨rfl, rfl⟩
          · exact Or.inl ⟨rfl, rfl⟩
      · exact absurd ⟨hsd, by omega, by omega, by omega⟩ hn
    · right; exact h10
  by_cases hop : op = 4 ∨ op = 5 ∨ op = 6 ∨ op = 8 ∨ op = 12 ∨ op = 13 ∨ op = 14 ∨ op = 15 ∨ op = 16 ∨ op = 17 ∨ op = 18 ∨ op = 20 ∨ op = 37
  · obtain ⟨r, er, HT, HU⟩ := turned ha hb hop
    rcases hop with rfl | rfl | rfl | rfl | rfl | rfl | rfl | rfl | rfl | rfl | rfl | rfl | rfl
    · exact turn_4 HT HU HI HJ hm hm2 HE w
    · exact turn_5 HT HU HI HJ hm hm2 HE w
    · exact turn_6 HT HU HI HJ hm hm2 HE w
    · exact turn_8 HT HU HI HJ hm hm2 HE w
    · exact turn_12 HT HU HI HJ hm hm2 HE w
    · exact turn_13 HT HU HI HJ hm hm2 HE w
    · exact turn_14 HT HU HI HJ hm hm2 HE w
    · exact turn_15 HT HU HI HJ hm hm2 HE w
    · exact turn_16 HT HU HI HJ hm hm2 HE w
    · exact turn_17 HT HU HI HJ hm hm2 HE w
    · exact turn_18 HT HU HI HJ hm hm2 HE w
    · exact turn_20 HT HU HI HJ hm hm2 HE w
    · exact turn_37 HT HU HI HJ hm hm2 HE w
  · exact turn_no (by omega) HI HJ hm hm2 HE w
end Go.Proofs.Ytnflphhckgeneaa
