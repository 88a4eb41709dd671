/- Contracts: the text of a word, as the program writes it. -/
import Derived.Test.YtjcmnhipiejnpaaT1
import Derived.Test.YtjcmnhipiejnpaaU25
namespace Go.Proofs.Ytjcmnhipiejnpaa
open Go.RowKit
set_option linter.unusedSimpArgs false
set_option linter.unusedVariables false

/-- The signs of the bits of n, the highest first: the first k of them. -/
def sgns (W n k : Nat) : List UInt8 := (List.range k).map fun j => if n.testBit (W - 1 - j) then 49 else 48
def txt (W n k : Nat) : List UInt8 := 35 :: 98 :: sgns W n k
theorem txt_len (W n k : Nat) : (txt W n k).length = k + 2 := by simp [txt, sgns]
theorem txt_put {W n k : Nat} {c : UInt8} (h : c = if n.testBit (W - 1 - k) then 49 else 48) : txt W n k ++ [c] = txt W n (k + 1) := by
  simp [txt, sgns, List.range_succ, h]

theorem keepL_cell {B : Nat} {W w1 : World} (hb : Below B W w1) {a : Addr} {v : Value} (ha : a.block < B) (h : W.cell? a = some v) : w1.cell? a = some v := by
  rw [hb.cell ha]; exact h
theorem bld_at_keep {T e B b : Nat} {p : Value} {bs : List Value} {w w' : World} (h : Lib.BuilderAtF T e B b p bs w) (hb : Below w.heap.size w w') : Lib.BuilderAtF T e B b p bs w' := by
  have hlt := h.lt
  obtain ⟨hB, v, hbk, hown, hne⟩ := h
  refine ⟨hB, v, by rw [hb.block b hlt]; exact hbk, ?_, hne⟩
  exact hown.kept (row := none) ⟨hb.os, hb.tape, hb.output, hb.size, fun k hk _ => hb.block k hk⟩ (by cases hv : v.ownBlock <;> simp)
theorem bld_keep {T e B b : Nat} {bs : List Value} {w w' : World} (h : Lib.IsBuilderF T e B b bs w) (hb : Below w.heap.size w w') : Lib.IsBuilderF T e B b bs w' := by
  rcases h with h | h
  · exact Or.inl (bld_at_keep h hb)
  · exact Or.inr (bld_at_keep h hb)
theorem bld_lt {T e B b : Nat} {bs : List Value} {w : World} (h : Lib.IsBuilderF T e B b bs w) : b < w.heap.size := by
  rcases h with h | h <;> exact h.lt

set_option maxHeartbeats 1600000 in
set_option maxRecDepth 20000 in
theorem text_word {W n : Nat} (h1 : 1 ≤ W) (h2 : W ≤ 128) (hn : n < 2 ^ W) (w : World) :
    Calls Try.prog 31 #[.agg #[.int .i64 W, .int .u64 (LO (n)), .int .u64 (HI (n))]] w fun e w' => e = .returned (.string ⟨(txt W n W).toArray⟩) ∧ Below w.heap.size w w' := by
  have hd3 : ((W : Int) == 0) = false := by simp; omega
  go_enter Try.func31, Try.ntmps31
  go_wp2_with fail
  refine (right_any (Wd.mk' h1 h2 hn) _).mono ?_
  rintro e w1 ⟨rfl, hb1⟩
  have hb1' := below_step (w := w) (by go_grown) hb1
  have hs1 := hb1'.size
  have KF1 : w1.cell? ⟨w.heap.size, 0, none⟩ = some (.int .i64 W) ∧ w1.cell? ⟨w.heap.size, 1, none⟩ = some (.int .u64 (LO (n))) ∧ w1.cell? ⟨w.heap.size, 2, none⟩ = some (.int .u64 (HI (n))) := ⟨keep_cell hb1 (by first | (simp [go_sem]; done)), keep_cell hb1 (by first | (simp [go_sem]; done)), keep_cell hb1 (by first | (simp [go_sem]; done))⟩; have KF1z0 : w.heap.size < w1.heap.size := World.block_lt_of_cell? _ _ KF1.1
  clear hb1
  have HK : Hid (w1.cell? ⟨w.heap.size, 0, none⟩ = some (.int .i64 W) ∧ w1.cell? ⟨w.heap.size, 1, none⟩ = some (.int .u64 (LO n)) ∧ w1.cell? ⟨w.heap.size, 2, none⟩ = some (.int .u64 (HI n))) := KF1
  go_wp2_with fail
  refine (writeString_any w1.heap.size w1.heap.size [] ⟨#[35, 98]⟩ _ (Lib.IsBuilderF.of (Lib.fresh_isBuilder 76 5 w1)) (by decide) (by simp)).mono ?_
  rintro e w2 ⟨rfl, h2b, hb2, -⟩
  have hb2' : Below w1.heap.size w1 w2 := ((Below.refl _ w1).alloc (Nat.le_refl _) _).trans hb2
  have HK2 : w2.cell? ⟨w.heap.size, 0, none⟩ = some (.int .i64 W) ∧ w2.cell? ⟨w.heap.size, 1, none⟩ = some (.int .u64 (LO n)) ∧ w2.cell? ⟨w.heap.size, 2, none⟩ = some (.int .u64 (HI n)) := ⟨keep_cell hb2' HK.out.1, keep_cell hb2' HK.out.2.1, keep_cell hb2' HK.out.2.2⟩
  have HJ2 : Hid (Lib.IsBuilderF 76 5 w1.heap.size w1.heap.size (Lib.byteCells (txt W n 0)) w2) := Or.inr h2b
  have hbl2 : Below w.heap.size w w2 := hb1'.trans (hb2'.mono hs1)
  have hbl0 := hb1'
  clear h2b hb2 KF1 HK hb1'
  go_wp2_with fail
  go_loopw [17] (fun i wr => ∃ k : Nat, k ≤ W ∧ i = .int .i64 k ∧ (wr.cell? ⟨w.heap.size, 0, none⟩ = some (.int .i64 W) ∧ wr.cell? ⟨w.heap.size, 1, none⟩ = some (.int .u64 (LO n)) ∧ wr.cell? ⟨w.heap.size, 2, none⟩ = some (.int .u64 (HI n))) ∧ Lib.IsBuilderF 76 5 w1.heap.size w1.heap.size (Lib.byteCells (txt W n k)) wr ∧ Below w1.heap.size w1 wr ∧ Below w.heap.size w wr) (fun i _ => W - (intOf i).toNat)
  case atStart => exact ⟨0, Nat.zero_le _, rfl, HK2, HJ2.out, hb2', hbl2⟩
  case round =>
    clear HK2 HJ2 hb2' hbl2
    obtain ⟨k, hk, rfl, hc, hI, hb1, hbl⟩ := hrel
    have HJ : Hid _ := hI
    clear hI
    have hbs := hb1.size
    by_cases hlt : k < W
    · obtain ⟨q, hq⟩ : ∃ q, q = W - 1 - k := ⟨_, rfl⟩
      have hkq : (W : Int) - 1 - (k : Int) = (q : Int) := by omega
      have hqW : q < W := by omega
      obtain ⟨v, hv⟩ : ∃ v, v = n.testBit q := ⟨_, rfl⟩
      have HB : Hid (∀ wx, Calls Try.prog 47 #[.agg #[.int .i64 W, .int .u64 (LO (n)), .int .u64 (HI (n))], .int .i64 (q : Int)] wx fun e w' => e = .returned (.bool v) ∧ Below wx.heap.size wx w') := fun wx => by rw [hv]; exact bitAt_any (Wd.mk' h1 h2 hn) rfl (by omega) wx
      rw [hq] at hv
      have HV : Hid (v = n.testBit (W - 1 - k)) := hv
      clear hv hq
      go_wp2_with fail
      refine (HB.out _).mono ?_
      rintro e w3 ⟨rfl, hb3⟩
      have HJ3 := bld_keep HJ.out hb3
      have hc3 : w3.cell? ⟨w.heap.size, 0, none⟩ = some (.int .i64 W) ∧ w3.cell? ⟨w.heap.size, 1, none⟩ = some (.int .u64 (LO n)) ∧ w3.cell? ⟨w.heap.size, 2, none⟩ = some (.int .u64 (HI n)) := ⟨keep_cell hb3 hc.1, keep_cell hb3 hc.2.1, keep_cell hb3 hc.2.2⟩
      have hb13 : Below w1.heap.size w1 w3 := hb1.trans (hb3.mono hbs)
      have hs3 := hb3.size
      have HJ3H : Hid _ := HJ3
      clear HJ3 hb3 hc hb1 HB
      cases v
      · go_wp2_with fail
        refine (writeByte_any w1.heap.size w1.heap.size _ 48 _ HJ3H.out (by rw [Lib.byteCells_length, txt_len]; omega) (by omega)).mono ?_
        rintro e w4 ⟨rfl, h4, hb4, -⟩
        have HJ4 : Hid (Lib.IsBuilderF 76 5 w1.heap.size w1.heap.size (Lib.byteCells (txt W n (k + 1))) w4) := by
          unfold Hid; rw [← txt_put (c := 48) (by rw [← HV.out]; rfl), Lib.byteCells_append]; exact Or.inr h4
        have hc4 : w4.cell? ⟨w.heap.size, 0, none⟩ = some (.int .i64 W) ∧ w4.cell? ⟨w.heap.size, 1, none⟩ = some (.int .u64 (LO n)) ∧ w4.cell? ⟨w.heap.size, 2, none⟩ = some (.int .u64 (HI n)) := ⟨keepL_cell hb4 KF1z0 hc3.1, keepL_cell hb4 KF1z0 hc3.2.1, keepL_cell hb4 KF1z0 hc3.2.2⟩
        have hb14 : Below w1.heap.size w1 w4 := hb13.trans hb4
        clear h4 hb4 hb13 hc3 HJ3H
        go_wp2_with fail
        exact ⟨⟨k + 1, by omega, by go_num, hc4, HJ4.out, hb14, hbl0.trans (hb14.mono hs1)⟩, by simp [intOf]; omega⟩
      · go_wp2_with fail
        refine (writeByte_any w1.heap.size w1.heap.size _ 49 _ HJ3H.out (by rw [Lib.byteCells_length, txt_len]; omega) (by omega)).mono ?_
        rintro e w4 ⟨rfl, h4, hb4, -⟩
        have HJ4 : Hid (Lib.IsBuilderF 76 5 w1.heap.size w1.heap.size (Lib.byteCells (txt W n (k + 1))) w4) := by
          unfold Hid; rw [← txt_put (c := 49) (by rw [← HV.out]; rfl), Lib.byteCells_append]; exact Or.inr h4
        have hc4 : w4.cell? ⟨w.heap.size, 0, none⟩ = some (.int .i64 W) ∧ w4.cell? ⟨w.heap.size, 1, none⟩ = some (.int .u64 (LO n)) ∧ w4.cell? ⟨w.heap.size, 2, none⟩ = some (.int .u64 (HI n)) := ⟨keepL_cell hb4 KF1z0 hc3.1, keepL_cell hb4 KF1z0 hc3.2.1, keepL_cell hb4 KF1z0 hc3.2.2⟩
        have hb14 : Below w1.heap.size w1 w4 := hb13.trans hb4
        clear h4 hb4 hb13 hc3 HJ3H
        go_wp2_with fail
        exact ⟨⟨k + 1, by omega, by go_num, hc4, HJ4.out, hb14, hbl0.trans (hb14.mono hs1)⟩, by simp [intOf]; omega⟩
    · obtain rfl : k = W := by omega
      go_wp2_with fail
      refine (bld_string w1.heap.size w1.heap.size (txt k n k) _ HJ.out (by omega)).mono ?_
      rintro e w4 ⟨rfl, -, hb4, -⟩
      have hb14 : Below w.heap.size w w4 := hbl.trans (hb4.mono hs1)
      clear HJ hb4
      go_wp2_with fail
      go_ret
      exact ⟨rfl, hb14⟩
end Go.Proofs.Ytjcmnhipiejnpaa
