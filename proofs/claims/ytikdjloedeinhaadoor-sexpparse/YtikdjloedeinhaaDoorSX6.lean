/- Contracts (sexp): a word is taken; what is a word. -/
import Derived.Test.YtikdjloedeinhaaDoorSX5
import Derived.Deep.RegionWith
namespace Go.Proofs.YtikdjloedeinhaaDoor
open Go.RowKit
set_option linter.unusedSimpArgs false
set_option linter.unusedVariables false

theorem drew_below (B : Nat) (w : World) : Below B w w.drew := ⟨rfl, rfl, rfl, Nat.le_refl _, fun _ _ => rfl⟩
theorem grown_below {w w1 w2 : World} {row : Option Nat} (h : w.grownBy w1 row) (hb : Below w1.heap.size w1 w2) : w.grownBy w2 row :=
  ⟨hb.os.trans h.os, hb.tape.trans h.tape, hb.output.trans h.output, Nat.le_trans h.size hb.size, fun k hk hne => (hb.block k (Nat.lt_of_lt_of_le hk h.size)).trans (h.block k hk hne)⟩
theorem ext_cut {t : ByteArray} {i j : Nat} (hj : j ≤ t.size) : t.extract i j = ⟨(cutL t i j).toArray⟩ := by
  apply ByteArray.ext
  rw [ByteArray.data_extract]
  apply Array.ext'
  unfold cutL
  rw [Array.toList_extract]
  simp [List.extract, List.drop_take]

set_option maxHeartbeats 3200000 in
theorem word_any {w : World} {b k : Nat} {t : ByteArray} {r : List Value} {T : TypeId} (h : Cu w b t k r T) (hk : k ≤ t.size) (ht : t.size ≤ 65536) :
    Calls Tryd.prog 54 #[.pointer (some ⟨b, 0, none⟩)] w fun e w' => e = .returned (.string ⟨(cutL t k (k + wsz (t.data.toList.drop k))).toArray⟩) ∧ Cu w' b t (k + wsz (t.data.toList.drop k)) r T ∧ w.grownBy w' (some b) := by
  have H : Hid _ := h
  have c0 := h.c0
  have c1 := h.c1
  have f1 := h.f1
  have hlb := h.lt
  have hr := wsz_room t k hk
  obtain ⟨n, hn⟩ : ∃ n, n = wsz (t.data.toList.drop k) := ⟨_, rfl⟩
  have HW : Hid (∀ wx, Cu wx b t k r T → Calls Tryd.prog 33 #[.pointer (some ⟨b, 0, none⟩)] wx fun e w' => e = .returned (.int .i64 (n : Int)) ∧ Below wx.heap.size wx w') := fun wx hx => by rw [hn]; exact wordSize_any hx hk (by omega)
  rw [← hn] at hr ⊢
  have HX : Hid (t.extract k (k + n) = ⟨(cutL t k (k + n)).toArray⟩) := ext_cut hr
  clear hn h
  have hkn : IntKind.i64.wrap ((k : Int) + (n : Int)) = (k : Int) + (n : Int) := by rw [IntKind.wrap_i64]; omega
  go_enter Tryd.func54, Tryd.ntmps54
  go_wp2_with fail
  have HA : Hid (Calls Tryd.prog 33 #[.pointer (some ⟨b, 0, none⟩)] w.drew fun e w1 => e = .returned (.int .i64 (n : Int)) ∧ w1.cell? ⟨b, 0, none⟩ = some (.string t) ∧ w1.cell? ⟨b, 1, none⟩ = some (.int .i64 (k : Int)) ∧ w1.frozen? ⟨b, 1, none⟩ = false ∧ Hid (Below w.heap.size w w1)) := by
    refine (HW.out w.drew ⟨H.out.hd⟩).mono ?_
    rintro e w1 ⟨rfl, hb⟩
    have hb2 : Below w.heap.size w w1 := Below.trans (drew_below _ _) hb
    have hq := H.out.far hb2 hlb
    exact ⟨rfl, hq.c0, hq.c1, hq.f1, hb2⟩
  go_region_with ((go_at_call 33; refine Calls.mono HA.out ?_; rintro e w1 ⟨rfl, d0, d1, g1, HB⟩))
  all_goals
    have HCU : Hid (Cu (w1.setCell ⟨b, 1, none⟩ (.int .i64 ((k : Int) + (n : Int)))) b t (k + n) r T) := (H.out.far HB.out hlb).put (k + n)
    obtain ⟨w2, hw2⟩ : ∃ w2, w2 = w1.setCell ⟨b, 1, none⟩ (.int .i64 ((k : Int) + (n : Int))) := ⟨_, rfl⟩
    have HG2 : Hid (w.grownBy w2 (some b)) := by
      unfold Hid
      rw [hw2]
      have ho := On.put w1 b 1 (.int .i64 ((k : Int) + (n : Int)))
      exact ⟨ho.os.trans HB.out.os, ho.tape.trans HB.out.tape, ho.output.trans HB.out.output, by rw [ho.size]; exact HB.out.size, fun q hq hne => (ho.block q (fun e => hne (by rw [e]))).trans (HB.out.block q hq)⟩
    rw [← hw2] at HCU ⊢
    have e0 := HCU.out.c0
    have e1 : w2.cell? ⟨b, 1, none⟩ = some (.int .i64 ((k : Int) + (n : Int))) := HCU.out.c1
    have HCL : Hid (Calls Tryd.prog 61 #[.string (t.extract k (k + n))] w2.drew fun e w3 => e = .returned (.string (t.extract k (k + n))) ∧ Hid (Below w2.heap.size w2 w3)) := by
      refine (clone_any (t.extract k (k + n)) w2.drew (by rw [HX.out]; show (cutL t k (k + n)).toArray.size ≤ _; rw [List.size_toArray, cut_len hr]; omega)).mono ?_
      rintro e w3 ⟨rfl, hb⟩
      exact ⟨rfl, Below.trans (drew_below _ _) hb⟩
    clear hw2 d0 d1 g1 c0 c1 f1 HA HW
    have hkk : (k : Int) ≤ (k : Int) + (n : Int) := by omega
    have hkt : (k : Int) + (n : Int) ≤ (t.size : Int) := by omega
    go_wp2_with fail
    go_region_with ((go_at_call 61; refine Calls.mono HCL.out ?_; rintro e w3 ⟨rfl, HB3⟩))
    all_goals
      go_wp2_with fail
      go_ret
      exact ⟨by rw [← HX.out]; rfl, HCU.out.far HB3.out HCU.out.lt, grown_below HG2.out HB3.out⟩

set_option maxHeartbeats 1600000 in
theorem Word_any (t : ByteArray) (w : World) (ht : t.size ≤ 9223372036854775807) :
    Calls Tryd.prog 19 #[.string t] w fun e w' => e = .returned (.bool (decide (0 < wsz t.data.toList) && decide (wsz t.data.toList = t.size))) ∧ Below w.heap.size w w' := by
  have HN : Hid (∀ wx, Calls Tryd.prog 32 #[.string t] wx fun e w' => e = .returned (.agg #[.string t, .int .i64 0]) ∧ Below wx.heap.size wx w') := fun wx => by
    go_enter Tryd.func32, Tryd.ntmps32
    go_wp2_with fail
    refine bodyPost_ret (v := .agg #[.string t, .int .i64 0]) (by simp [results, Tryd.results32, go_sem]) rfl ?_
    exact ⟨rfl, by go_grown⟩
  obtain ⟨n, hn⟩ : ∃ n, n = wsz t.data.toList := ⟨_, rfl⟩
  have hnt : n ≤ t.size := by have := wsz_le t.data.toList; rw [len_t] at this; omega
  have HW : Hid (∀ wx b r T, Cu wx b t 0 r T → Calls Tryd.prog 33 #[.pointer (some ⟨b, 0, none⟩)] wx fun e w' => e = .returned (.int .i64 (n : Int)) ∧ Below wx.heap.size wx w') := fun wx b r T hx => by
    have := wordSize_any hx (Nat.zero_le _) ht
    rw [List.drop_zero] at this; rw [hn]; exact this
  rw [← hn]
  clear hn
  go_enter Tryd.func19, Tryd.ntmps19
  go_wp2_with fail
  refine Calls.mono (HN.out _) ?_
  rintro e w1 ⟨rfl, hb1⟩
  go_wp2_with fail
  refine Calls.mono (HW.out _ _ [] 51 ⟨heap_alloc_new w1 _⟩) ?_
  rintro e w2 ⟨rfl, hb2⟩
  have HB : Hid (Below w.heap.size w w2) := (hb1.alloc hb1.size _).trans (hb2.mono (by simp; have := hb1.size; omega))
  clear hb1 hb2
  by_cases h0 : n = 0
  · subst h0
    go_wp2_with fail
    go_ret
    exact ⟨rfl, HB.out⟩
  · have h1 : (0 : Int) < (n : Int) := by omega
    have h2 : ((n : Int) == (t.size : Int)) = decide (n = t.size) := by
      by_cases e : n = t.size
      · simp [e]
      · have : ¬ (n : Int) = (t.size : Int) := by omega
        simp [e, this]
    have h3 : decide (0 < n) = true := by simp; omega
    have H2 : Hid ((decide (0 < n) && decide (n = t.size)) = ((n : Int) == (t.size : Int))) := by unfold Hid; rw [h3, Bool.true_and, ← h2]
    clear h2 h3
    go_wp2_with fail
    go_ret
    exact ⟨by rw [H2.out]; rfl, HB.out⟩
end Go.Proofs.YtikdjloedeinhaaDoor
