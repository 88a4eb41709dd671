/- The document's Print. -/
import Derived.Test.YtlpojfpfindpkaaDoorSX25
namespace Go.Proofs.YtlpojfpfindpkaaDoor
open Go.RowKit
set_option linter.unusedSimpArgs false
set_option linter.unusedVariables false

def tx (l : List UInt8) : ByteArray := ⟨l.toArray⟩
theorem tx_app (l m : List UInt8) : tx l ++ tx m = tx (l ++ m) := by
  apply ByteArray.ext
  rw [ByteArray.data_append]
  show l.toArray ++ m.toArray = (l ++ m).toArray
  simp
theorem tx_size (l : List UInt8) : (tx l).size = l.length := by show l.toArray.size = _; simp
theorem tx_data (t : ByteArray) : tx t.data.toList = t := by apply ByteArray.ext; show t.data.toList.toArray = t.data; simp
set_option maxRecDepth 20000 in
set_option maxHeartbeats 6400000 in
theorem rPrint_any (x : Sx) : ∀ {w : World} {D : Nat → Prop} {u : Value} (_ : Row w D x.ks u) (_ : ∀ g, D g → g < w.heap.size) (_ : x.prt.length ≤ 700000),
    Calls Tryd.prog 16 #[.agg #[.string x.w, .bool x.l, u]] w fun e w' => e = .returned (.string (tx x.prt)) ∧ Below w.heap.size w w' := by
  match x with
  | .mk sw tl ks =>
  intro w D u hr hD hlen
  have IH : Hid (∀ (y : Sx), y ∈ ks → ∀ {w : World} {D : Nat → Prop} {u : Value} (_ : Row w D y.ks u) (_ : ∀ g, D g → g < w.heap.size) (_ : y.prt.length ≤ 700000),
    Calls Tryd.prog 16 #[.agg #[.string y.w, .bool y.l, u]] w fun e w' => e = .returned (.string (tx y.prt)) ∧ Below w.heap.size w w') := fun y hy => rPrint_any y
  have hr' : Row w D ks u := hr
  clear hr
  show Calls Tryd.prog 16 #[.agg #[.string sw, .bool tl, u]] w fun e w' => e = .returned (.string (tx (Sx.mk sw tl ks).prt)) ∧ Below w.heap.size w w'
  have hml := row_len hr'
  obtain ⟨a, c, rfl, hget⟩ := row_get hr'
  cases tl
  · have hp : tx (Sx.mk sw false ks).prt = sw := by simp [Sx.prt, tx_data]
    rw [hp]
    obtain ⟨N, hN⟩ : ∃ N, N = ks.length := ⟨_, rfl⟩
    rw [← hN]
    clear hget hr' IH hp hlen hN hml
    go_enter Tryd.func16, Tryd.ntmps16
    go_wp2_with fail
    go_ret
    exact ⟨rfl, by go_grown⟩
  · have hp : (Sx.mk sw true ks).prt = (40 :: pks true ks) ++ [41] := by simp [Sx.prt]
    rw [hp] at hlen ⊢
    have HG : Hid _ := hget
    obtain ⟨N, hN⟩ : ∃ N, N = ks.length := ⟨_, rfl⟩
    have HN : Hid _ := hN
    have hN9 : (N : Int) ≤ 9223372036854775807 := by unfold maxLen at hml; omega
    rw [← hN]
    have hlen' : (pks true ks).length + 2 ≤ 700000 := by simpa using hlen
    have HLEN : Hid _ := hlen'
    rw [← tx_app]
    obtain ⟨Z, hZ⟩ : ∃ Z, Z = tx [41] := ⟨_, rfl⟩
    have HZ : Hid _ := hZ
    rw [← hZ]
    clear hget hr' hp hlen hlen' hN hml hZ
    go_enter Tryd.func16, Tryd.ntmps16
    go_wp2_with fail
    go_loopw [3, 4] (fun s i wr => ∃ k : Nat, k ≤ N ∧ s = .string (tx (40 :: pks true (ks.take k))) ∧ i = .int .i64 (k : Int) ∧ Hid (Below w.heap.size w wr) ∧ Hid (wr.cell? ⟨w.heap.size, 2, none⟩ = some (.slice a N c))) (fun s i wr => N - (intOf i).toNat)
    case atStart => exact ⟨0, Nat.zero_le _, by simp [pks, tx], rfl, by unfold Hid; go_grown, by unfold Hid; simp⟩
    case round =>
      obtain ⟨k, hk, rfl, rfl, hW, hX⟩ := hrel
      have hsr : w.heap.size ≤ wr.heap.size := hW.out.size
      have q1 := hX.out
      have hSM0 := pks_mono (ks := ks) (j := k)
      obtain ⟨S, hS⟩ : ∃ S, S = tx (40 :: pks true (ks.take k)) := ⟨_, rfl⟩
      have hSz : S.size = (pks true (ks.take k)).length + 1 := by rw [hS, tx_size]; rfl
      by_cases hlt : k < N
      · obtain ⟨y, hy⟩ : ∃ y, ks[k]? = some y := ⟨_, List.getElem?_eq_getElem (by rw [← HN.out]; exact hlt)⟩
        obtain ⟨g, o, uy, rfl, hDg, hgl, g0, g1, g2, hRy⟩ := HG.out k y hy
        have cc : ∀ i, wr.cell? ⟨g, i, none⟩ = w.cell? ⟨g, i, none⟩ := fun i => World.cell?_of_block (a := ⟨g, i, none⟩) (hW.out.block g (hD g hDg))
        have d0 : wr.cell? ⟨g, o + k * 3, none⟩ = some (.string y.w) := (cc _).trans g0
        have d1 : wr.cell? ⟨g, o + k * 3 + 1, none⟩ = some (.bool y.l) := (cc _).trans g1
        obtain ⟨ay, ny, cy, rfl⟩ := hRy.sl
        have d2 : wr.cell? ⟨g, o + k * 3 + 2, none⟩ = some (.slice ay ny cy) := (cc _).trans g2
        have hltI : (k : Int) < (N : Int) := by omega
        have hST := pks_take hy
        have hSM := pks_mono (ks := ks) (j := k + 1)
        have hYl : y.prt.length + (pks true (ks.take k)).length ≤ (pks true ks).length := by
          rw [hST] at hSM; simp at hSM; omega
        have hY : y.prt.length ≤ 700000 := by have := HLEN.out; omega
        obtain ⟨Y, hYe⟩ : ∃ Y, Y = tx y.prt := ⟨_, rfl⟩
        have hYs : Y.size = y.prt.length := by rw [hYe, tx_size]
        have HSY : Hid (Calls Tryd.prog 16 #[.agg #[.string y.w, .bool y.l, .slice ay ny cy]] wr fun e w' => e = .returned (.string Y) ∧ Hid (Below w.heap.size w w') ∧ Hid (w'.cell? ⟨w.heap.size, 2, none⟩ = some (.slice (some ⟨g, o, none⟩) N c))) := by
          have h1 := IH.out y (List.mem_of_getElem? hy) (w := wr) (row_low hRy hD hW.out) (fun g hg => by have := hD g hg; omega) hY
          refine h1.mono ?_
          rintro e w' ⟨rfl, hb⟩
          refine ⟨by rw [hYe], hW.out.trans (hb.mono hsr), ?_⟩
          unfold Hid
          rw [hb.cell (p := ⟨w.heap.size, 2, none⟩) (World.block_lt_of_cell? _ _ q1)]; exact q1
        by_cases h0 : k = 0
        · have HSS : Hid (tx (40 :: pks true (ks.take (k + 1))) = S ++ Y) := by
            unfold Hid
            rw [hST, if_pos h0, hS, hYe, tx_app]; simp
          have hz : ¬ (9223372036854775807 < S.size + Y.size) := by have := HLEN.out; omega
          have hgt : ¬ (0 < (k : Int)) := by omega
          rw [← hS]
          clear hy g0 g1 g2 hRy cc hST hSM hY hS hYe hYl hSz hYs hSM0 h0
          go_wp2_with fail
          refine Calls.mono HSY.out ?_
          rintro e w2 ⟨rfl, hb3, hX2⟩
          go_wp2_with fail
          exact ⟨⟨k + 1, by omega, by rw [HSS.out], rfl, hb3, hX2⟩, by simp [intOf]; omega⟩
        · have HSS : Hid (tx (40 :: pks true (ks.take (k + 1))) = (S ++ ⟨#[32]⟩) ++ Y) := by
            unfold Hid
            have e32 : (⟨#[32]⟩ : ByteArray) = tx [32] := rfl
            rw [hST, if_neg h0, hS, hYe, e32, tx_app, tx_app]; simp
          have hz1 : ¬ (9223372036854775807 < S.size + 1) := by have := HLEN.out; omega
          have hz : ¬ (9223372036854775807 < (S ++ ⟨#[32]⟩).size + Y.size) := by have := HLEN.out; have e1 : (⟨#[32]⟩ : ByteArray).size = 1 := rfl; rw [ByteArray.size_append, e1]; omega
          have hz' : ¬ (9223372036854775807 < S.size + 1 + Y.size) := by have := HLEN.out; omega
          have hgt : (0 < (k : Int)) := by omega
          rw [← hS]
          clear hy g0 g1 g2 hRy cc hST hSM hY hS hYe hYl hSz hYs hSM0 h0
          go_wp2_with fail
          refine Calls.mono HSY.out ?_
          rintro e w2 ⟨rfl, hb3, hX2⟩
          go_wp2_with fail
          exact ⟨⟨k + 1, by omega, by rw [HSS.out], rfl, hb3, hX2⟩, by simp [intOf]; omega⟩
      · obtain rfl : k = N := by omega
        have htk : ks.take k = ks := by rw [HN.out]; exact List.take_length
        rw [htk] at hS hSz ⊢
        rw [← hS]
        have hz1 : ¬ (9223372036854775807 < S.size + 1) := by have := HLEN.out; omega
        have HSS : Hid _ := hS
        clear hS hSz hSM0 htk
        go_wp2_with fail
        go_ret
        exact ⟨by rw [HSS.out, HZ.out]; rfl, hW.out⟩
termination_by SizeOf.sizeOf x
decreasing_by
  simp_wf
  have := List.sizeOf_lt_of_mem hy
  omega
end Go.Proofs.YtlpojfpfindpkaaDoor
