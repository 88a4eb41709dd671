/- The chapter's examples hold (values of terms). (Made by a script.) -/
import Derived.Test.YtnflphhckgeneaaGreatMg51
import Derived.Test.YtnflphhckgeneaaGreatMg35
import Derived.Test.YtnflphhckgeneaaGreatMg47
import Derived.Test.YtnflphhckgeneaaGreatMg48
import Derived.Test.YtnflphhckgeneaaGreatMg1
import Derived.Test.YtnflphhckgeneaaGreatMg11
import Derived.Test.YtnflphhckgeneaaGreatP3
namespace Go.Proofs.YtnflphhckgeneaaGreat
set_option maxHeartbeats 12800000
set_option maxRecDepth 100000
open Go.RowKit
set_option linter.unusedSimpArgs false
set_option linter.unusedVariables false

theorem m123 : M3 ∉ [N1, N2] := by
  intro h
  rcases List.mem_cons.1 h with h | h
  · simp [N1, M3] at h
  · have := List.mem_singleton.1 h; simp [N2, M3] at this
theorem kM3 : ∃ kl, keyOf Tryz.prog 53 M3.val = some kl := by
  refine kn_of ?_ ?_ ?_ ?_ ?_ ?_ ?_ ?_ ?_ ?_ ?_ ?_ ?_ <;> first | decide | (unfold w64; decide)
theorem sm3 : srtOf [N1, N2] (⟨29, 0, 1, 2, 0, 0, 0, 0, 0, 0, ⟨#[]⟩⟩ : Nd) = (0, 0) := by decide
theorem cmK : (vsF K3).map (cmpV K3 (fvF K3 [])) = [⟨⟨#[120]⟩, ⟨4, 0, 0⟩⟩] := by rfl
theorem ck {w : World} {B g mi mv mo : Nat} {v : Value} (h : Gr w B g mi mv v mo K3) :
    Calls Tryz.prog 13 #[.pointer (some ⟨g, 0, none⟩), .slice none 0 0] w fun e w' => ∃ r cap, e = .returned (.slice (some ⟨r, 0, none⟩) 1 cap) ∧ Lv w' r 0 [⟨⟨#[120]⟩, ⟨4, 0, 0⟩⟩] ∧ r < w'.heap.size ∧ Below w.heap.size w w' := by
  refine (comp_any (l := []) (c := 0) h (by decide) (Or.inl rfl) (fun x hx => nomatch hx) (by decide) (fun p hp => nomatch hp)).mono ?_
  rintro e w' ⟨u, rfl, hN, hb⟩
  rw [cmK] at hN
  rcases hN.2 with ⟨-, h0⟩ | ⟨r, cap, cur, rfl, h1, h2, h3, h4, h5, h6⟩
  · cases h0
  · refine ⟨r, cap, rfl, fun j x hj t u hu => ?_, (Array.getElem?_eq_some_iff.1 h2).1, hb⟩
    have hc := World.ownsRow.cells hN (g := r) rfl
    match j, hj with
    | 0, hj =>
      obtain rfl := Option.some.inj hj
      have := hc t u (by
        rw [show [(⟨⟨#[120]⟩, ⟨4, 0, 0⟩⟩ : Nv)].flatMap Nv.cs = Nv.cs ⟨⟨#[120]⟩, ⟨4, 0, 0⟩⟩ by simp]; exact hu)
      rw [show ((⟨r, 0, none⟩ : Addr).add t) = ⟨r, 0 + 0 * 4 + t, none⟩ by simp only [Addr.add]; split <;> simp_all] at this
      exact this
    | k + 1, hj => simp at hj
theorem allr2 {w : World} {b : Nat} {u : Value} (h : AllR w b u [b9, b2] 0) : ∃ r cap, u = .slice (some ⟨r, 0, none⟩) 2 cap := by
  unfold AllR at h
  rw [if_pos rfl] at h
  rcases h.2 with ⟨-, h0⟩ | ⟨r, cap, cur, rfl, _⟩
  · cases h0
  · exact ⟨r, cap, rfl⟩
theorem eqb (a b c : Int) (w : World) : (binOp .eql 34 (.agg #[.int .i64 a, .int .u64 b, .int .u64 c]) (.agg #[.int .i64 a, .int .u64 b, .int .u64 c])).run Tryz.prog w = .ok (.bool true) w := by simp [go_sem]

theorem lb9 (j t : Nat) (u : Value) {x : Bt} (hx : [(⟨0, 1, 0⟩ : Bt), ⟨2, 3, 0⟩, ⟨2, 0, 0⟩][j]? = some x) (hu : x.cs[t]? = some u) : (#[Value.int .i64 0, .int .u64 1, .int .u64 0, .int .i64 2, .int .u64 3, .int .u64 0, .int .i64 2, .int .u64 0, .int .u64 0])[0 + j * 3 + t]? = some u := by
  have hj : j = 0 ∨ j = 1 ∨ j = 2 := by have := (List.getElem?_eq_some_iff.1 hx).1; simp at this; omega
  have ht : t = 0 ∨ t = 1 ∨ t = 2 := by have := (List.getElem?_eq_some_iff.1 hu).1; simp [Bt.cs] at this; omega
  rcases hj with rfl | rfl | rfl <;> obtain rfl := Option.some.inj hx <;> rcases ht with rfl | rfl | rfl <;> exact hu

theorem known4 (w : World) :
    Rt 7 #[] w (.bool true) := by
  go_enter Tryz.func7, Tryz.ntmps7
  go_wp2_with fail
  refine (gnew_any 9 _).mono ?_
  rintro e w1 ⟨rfl, hb1, hG1⟩
  have HG1 : Hid _ := hG1
  clear hG1
  go_wp2_with fail
  obtain ⟨k1, hk1⟩ := kN1
  refine (mk_new (n := (⟨2, 4, 0, 0, 0, 0, 0, 0, 0, 0, ⟨#[120]⟩⟩ : Nd)) (s := 4) HG1.out (fiOf rfl rfl (by decide)) so1 (by simp) hk1 (by decide) hb1.size).mono ?_
  rintro e w2 ⟨rfl, v2, hG2, hC2, -⟩
  have hb2 : Below w.heap.size w w2 := hb1.trans (hC2.low HG1.out hb1.size)
  have HG2 : Hid (Gr w2 w.heap.size (w.heap.size + 2) w.heap.size (w.heap.size + 1) v2 (roomOf 9) [N1]) := hG2
  clear hG2 hC2 hk1
  go_wp2_with fail
  obtain ⟨k2, hk2⟩ := kN2
  refine (mk_new (n := (⟨18, 0, 1, 1, 0, 0, 0, 0, 0, 0, ⟨#[]⟩⟩ : Nd)) (s := 4) HG2.out (fiOf rfl rfl (by decide)) so2 n12 hk2 (by decide) hb2.size).mono ?_
  rintro e w3 ⟨rfl, v3, hG3, hC3, -⟩
  have hb3 : Below w.heap.size w w3 := hb2.trans (hC3.low HG2.out hb2.size)
  have HG3 : Hid (Gr w3 w.heap.size (w.heap.size + 2) w.heap.size (w.heap.size + 1) v3 (roomOf 9) [N1, N2]) := hG3
  clear hG3 hC3 hk2
  go_wp2_with fail
  obtain ⟨k3, hk3⟩ := kM3
  refine (mk_new (n := (⟨29, 0, 1, 2, 0, 0, 0, 0, 0, 0, ⟨#[]⟩⟩ : Nd)) (s := 0) HG3.out (fiOf rfl rfl (by decide)) sm3 m123 hk3 (by decide) hb3.size).mono ?_
  rintro e w4 ⟨rfl, v4, hG4, hC4, -⟩
  have hb4 : Below w.heap.size w w4 := hb3.trans (hC4.low HG3.out hb3.size)
  have HG4 : Hid (Gr w4 w.heap.size (w.heap.size + 2) w.heap.size (w.heap.size + 1) v4 (roomOf 9) K3) := hG4
  have HLE : Hid (Le (w4.alloc (.cells #[.string ⟨#[120]⟩, .int .i64 4, .int .u64 9, .int .u64 0] 60)) (some ⟨w4.heap.size, 0, none⟩) [Ex]) := Or.inr ⟨w4.heap.size, 0, rfl, by rw [size_alloc']; omega, fun j x hj t u hu => by
    match j, hj with
    | 0, hj =>
      obtain rfl := Option.some.inj hj
      rw [show 0 + 0 * 4 + t = t by omega]
      exact cell_of (heap_alloc_new w4 _) t (by simpa [Ex, Nv.cs, b9] using hu)
    | k + 1, hj => simp at hj⟩
  clear hG4 hC4 hk3
  have hs4 := hb4.size
  obtain ⟨w5, hw5⟩ : ∃ w5, w5 = w4.alloc (.cells #[.string ⟨#[120]⟩, .int .i64 4, .int .u64 9, .int .u64 0] 60) := ⟨_, rfl⟩
  have hb5 : Below w.heap.size w w5 := by rw [hw5]; exact hb4.alloc hs4 _
  have HG5 : Hid (Gr w5 w.heap.size (w.heap.size + 2) w.heap.size (w.heap.size + 1) v4 (roomOf 9) K3) := by rw [hw5]; exact HG4.out.alloc _
  have HL5 : Hid (Le w5 (some ⟨w4.heap.size, 0, none⟩) [Ex]) := by rw [hw5]; exact HLE.out
  clear HG4 HLE
  have HE2 : Hid (∀ wx, Below w5.heap.size w5 wx → Rt 9 #[.pointer (some ⟨w.heap.size + 2, 0, none⟩), .int .i64 2, .slice (some ⟨w4.heap.size, 0, none⟩) 1 1] wx (.tuple #[.agg #[.int .i64 4, .int .u64 2, .int .u64 0], .int .i64 0])) := fun wx hb => ek (id := 2) (HG5.out.below hb) (HL5.out.below hb) (Or.inr (Or.inl rfl))
  have HE3 : Hid (∀ wx, Below w5.heap.size w5 wx → Rt 9 #[.pointer (some ⟨w.heap.size + 2, 0, none⟩), .int .i64 3, .slice (some ⟨w4.heap.size, 0, none⟩) 1 1] wx (.tuple #[.agg #[.int .i64 0, .int .u64 0, .int .u64 0], .int .i64 0])) := fun wx hb => ek (id := 3) (HG5.out.below hb) (HL5.out.below hb) (Or.inr (Or.inr rfl))
  have HE3n : Hid (∀ wx, Below w5.heap.size w5 wx → Rt 9 #[.pointer (some ⟨w.heap.size + 2, 0, none⟩), .int .i64 3, .slice none 0 0] wx (.tuple #[.agg #[.int .i64 0, .int .u64 0, .int .u64 0], .int .i64 41])) := fun wx hb => ek3n (HG5.out.below hb)
  have HE4 : Hid (∀ wx, Below w5.heap.size w5 wx → Rt 9 #[.pointer (some ⟨w.heap.size + 2, 0, none⟩), .int .i64 4, .slice (some ⟨w4.heap.size, 0, none⟩) 1 1] wx (.tuple #[.agg #[.int .i64 0, .int .u64 0, .int .u64 0], .int .i64 40])) := fun wx hb => ek4 (HG5.out.below hb) (HL5.out.below hb)
  have HIT : Hid (∀ wx gb, Lb wx gb 0 [⟨0, 1, 0⟩, ⟨2, 3, 0⟩, ⟨2, 0, 0⟩] → gb < wx.heap.size → Rt 15 #[.int .i64 9, .int .i64 0, .int .i64 0, .slice (some ⟨gb, 0, none⟩) 3 3] wx (.tuple #[.agg #[.int .i64 2, .int .u64 3, .int .u64 0], .int .i64 0])) := fun wx gb hl hg => apply_ite (s := 2) hl hg ⟨by decide, by decide, by decide, by decide⟩ ⟨by decide, by decide, by decide, by decide⟩ ⟨by decide, by decide, by decide, by decide⟩ (by decide)
  have HAK : Hid (∀ wx gi, Below w5.heap.size w5 wx → Li wx gi 0 [1, 2] → gi < wx.heap.size → Calls Tryz.prog 11 #[.pointer (some ⟨w.heap.size + 2, 0, none⟩), .slice (some ⟨gi, 0, none⟩) 2 2, .slice (some ⟨w4.heap.size, 0, none⟩) 1 1] wx fun e w' => ∃ r cap, e = .returned (.tuple #[.slice (some ⟨r, 0, none⟩) 2 cap, .int .i64 0]) ∧ Below wx.heap.size wx w') := fun wx gi hb hl hg => (ak (HG5.out.below hb) (HL5.out.below hb) hl hg).mono (by
    rintro e w' ⟨u, rfl, ha, hb⟩
    obtain ⟨r, cap, rfl⟩ := allr2 ha
    exact ⟨r, cap, rfl, hb⟩)
  have HCK : Hid (∀ wx, Below w5.heap.size w5 wx → Calls Tryz.prog 13 #[.pointer (some ⟨w.heap.size + 2, 0, none⟩), .slice none 0 0] wx fun e w' => ∃ r cap, e = .returned (.slice (some ⟨r, 0, none⟩) 1 cap) ∧ Lv w' r 0 [⟨⟨#[120]⟩, ⟨4, 0, 0⟩⟩] ∧ r < w'.heap.size ∧ Below wx.heap.size wx w') := fun wx hb => ck (HG5.out.below hb)
  go_wp2_with fail
  rw [← hw5]
  have hs5 := hb5.size
  refine (HE2.out _ (Below.refl w5.heap.size w5)).mono ?_
  rintro e w6 ⟨rfl, hb⟩
  have s6 : w5.heap.size + 0 ≤ w6.heap.size := by have := hb.size; exact this
  have B6 : Below w5.heap.size w5 w6 := (Below.refl w5.heap.size w5).trans (hb.mono (by have := ((Below.refl w5.heap.size w5)).size; omega))
  clear hb
  go_wp2_with fail
  refine (HE3.out _ (B6.alloc (by have := (B6).size; omega) (.cells #[.int .i64 4, .int .u64 2, .int .u64 0] 34))).mono ?_
  rintro e w7 ⟨rfl, hb⟩
  have s7 : w6.heap.size + 1 ≤ w7.heap.size := by have := hb.size; rw [size_alloc'] at this; exact this
  have B7 : Below w5.heap.size w5 w7 := (B6.alloc (by have := (B6).size; omega) (.cells #[.int .i64 4, .int .u64 2, .int .u64 0] 34)).trans (hb.mono (by rw [size_alloc']; have := (B6).size; omega))
  have f6_7 : Hid (w7.heap[w6.heap.size]? = some (.cells #[.int .i64 4, .int .u64 2, .int .u64 0] 34)) := (hb.block _ (by rw [size_alloc']; omega)).trans (heap_alloc_new w6 (.cells #[.int .i64 4, .int .u64 2, .int .u64 0] 34))
  clear hb
  go_wp2_with fail
  refine (HE3n.out _ (B7.alloc (by have := (B7).size; omega) (.cells #[.int .i64 0, .int .u64 0, .int .u64 0] 34))).mono ?_
  rintro e w8 ⟨rfl, hb⟩
  have s8 : w7.heap.size + 1 ≤ w8.heap.size := by have := hb.size; rw [size_alloc'] at this; exact this
  have B8 : Below w5.heap.size w5 w8 := (B7.alloc (by have := (B7).size; omega) (.cells #[.int .i64 0, .int .u64 0, .int .u64 0] 34)).trans (hb.mono (by rw [size_alloc']; have := (B7).size; omega))
  have f6_8 : Hid (w8.heap[w6.heap.size]? = some (.cells #[.int .i64 4, .int .u64 2, .int .u64 0] 34)) := (hb.block _ (by rw [size_alloc']; omega)).trans ((heap_alloc_old _ (.cells #[.int .i64 0, .int .u64 0, .int .u64 0] 34) (by omega)).trans ((f6_7).out))
  have f7_8 : Hid (w8.heap[w7.heap.size]? = some (.cells #[.int .i64 0, .int .u64 0, .int .u64 0] 34)) := (hb.block _ (by rw [size_alloc']; omega)).trans (heap_alloc_new w7 (.cells #[.int .i64 0, .int .u64 0, .int .u64 0] 34))
  clear hb
  go_wp2_with fail
  refine (HE4.out _ (B8.alloc (by have := (B8).size; omega) (.cells #[.int .i64 0, .int .u64 0, .int .u64 0] 34))).mono ?_
  rintro e w9 ⟨rfl, hb⟩
  have s9 : w8.heap.size + 1 ≤ w9.heap.size := by have := hb.size; rw [size_alloc'] at this; exact this
  have B9 : Below w5.heap.size w5 w9 := (B8.alloc (by have := (B8).size; omega) (.cells #[.int .i64 0, .int .u64 0, .int .u64 0] 34)).trans (hb.mono (by rw [size_alloc']; have := (B8).size; omega))
  have f6_9 : Hid (w9.heap[w6.heap.size]? = some (.cells #[.int .i64 4, .int .u64 2, .int .u64 0] 34)) := (hb.block _ (by rw [size_alloc']; omega)).trans ((heap_alloc_old _ (.cells #[.int .i64 0, .int .u64 0, .int .u64 0] 34) (by omega)).trans ((f6_8).out))
  have f7_9 : Hid (w9.heap[w7.heap.size]? = some (.cells #[.int .i64 0, .int .u64 0, .int .u64 0] 34)) := (hb.block _ (by rw [size_alloc']; omega)).trans ((heap_alloc_old _ (.cells #[.int .i64 0, .int .u64 0, .int .u64 0] 34) (by omega)).trans ((f7_8).out))
  clear hb
  go_wp2_with fail
  refine (HIT.out _ _ (fun j x hj t u hu => by
    have hc := heap_alloc_new (w9.alloc (.cells #[.int .i64 0, .int .u64 0, .int .u64 0] 34)) (.cells #[.int .i64 0, .int .u64 1, .int .u64 0, .int .i64 2, .int .u64 3, .int .u64 0, .int .i64 2, .int .u64 0, .int .u64 0] 34)
    rw [size_alloc'] at hc
    match j, hj with
    | 0, hj => obtain rfl := Option.some.inj hj; exact cell_of hc _ (lb9 0 t u rfl hu)
    | 1, hj => obtain rfl := Option.some.inj hj; exact cell_of hc _ (lb9 1 t u rfl hu)
    | 2, hj => obtain rfl := Option.some.inj hj; exact cell_of hc _ (lb9 2 t u rfl hu)
    | q + 3, hj => simp at hj) (by simp)).mono ?_
  rintro e w10 ⟨rfl, hb⟩
  have s10 : w9.heap.size + 2 ≤ w10.heap.size := by have := hb.size; rw [size_alloc', size_alloc'] at this; exact this
  have B10 : Below w5.heap.size w5 w10 := ((B9.alloc (by have := (B9).size; omega) (.cells #[.int .i64 0, .int .u64 0, .int .u64 0] 34)).alloc (by rw [size_alloc']; have := (B9).size; omega) (.cells #[.int .i64 0, .int .u64 1, .int .u64 0, .int .i64 2, .int .u64 3, .int .u64 0, .int .i64 2, .int .u64 0, .int .u64 0] 34)).trans (hb.mono (by rw [size_alloc', size_alloc']; have := (B9).size; omega))
  have f6_10 : Hid (w10.heap[w6.heap.size]? = some (.cells #[.int .i64 4, .int .u64 2, .int .u64 0] 34)) := (hb.block _ (by rw [size_alloc', size_alloc']; omega)).trans ((heap_alloc_old _ (.cells #[.int .i64 0, .int .u64 1, .int .u64 0, .int .i64 2, .int .u64 3, .int .u64 0, .int .i64 2, .int .u64 0, .int .u64 0] 34) (by rw [size_alloc']; omega)).trans ((heap_alloc_old _ (.cells #[.int .i64 0, .int .u64 0, .int .u64 0] 34) (by omega)).trans ((f6_9).out)))
  have f7_10 : Hid (w10.heap[w7.heap.size]? = some (.cells #[.int .i64 0, .int .u64 0, .int .u64 0] 34)) := (hb.block _ (by rw [size_alloc', size_alloc']; omega)).trans ((heap_alloc_old _ (.cells #[.int .i64 0, .int .u64 1, .int .u64 0, .int .i64 2, .int .u64 3, .int .u64 0, .int .i64 2, .int .u64 0, .int .u64 0] 34) (by rw [size_alloc']; omega)).trans ((heap_alloc_old _ (.cells #[.int .i64 0, .int .u64 0, .int .u64 0] 34) (by omega)).trans ((f7_9).out)))
  clear hb
  go_wp2_with fail
  refine (HAK.out _ _ ((B10.alloc (by have := (B10).size; omega) (.cells #[.int .i64 2, .int .u64 3, .int .u64 0] 34)).alloc (by rw [size_alloc']; have := (B10).size; omega) (.cells #[.int .i64 1, .int .i64 2] 3)) (fun j hj => by
    have hc := heap_alloc_new (w10.alloc (.cells #[.int .i64 2, .int .u64 3, .int .u64 0] 34)) (.cells #[.int .i64 1, .int .i64 2] 3)
    rw [size_alloc'] at hc
    have : j = 0 ∨ j = 1 := by simp at hj; omega
    rcases this with rfl | rfl
    · exact cell_of hc 0 rfl
    · exact cell_of hc 1 rfl) (by simp)).mono ?_
  rintro e w11 ⟨r, cap, rfl, hb⟩
  have s11 : w10.heap.size + 2 ≤ w11.heap.size := by have := hb.size; rw [size_alloc', size_alloc'] at this; exact this
  have B11 : Below w5.heap.size w5 w11 := ((B10.alloc (by have := (B10).size; omega) (.cells #[.int .i64 2, .int .u64 3, .int .u64 0] 34)).alloc (by rw [size_alloc']; have := (B10).size; omega) (.cells #[.int .i64 1, .int .i64 2] 3)).trans (hb.mono (by rw [size_alloc', size_alloc']; have := (B10).size; omega))
  have f6_11 : Hid (w11.heap[w6.heap.size]? = some (.cells #[.int .i64 4, .int .u64 2, .int .u64 0] 34)) := (hb.block _ (by rw [size_alloc', size_alloc']; omega)).trans ((heap_alloc_old _ (.cells #[.int .i64 1, .int .i64 2] 3) (by rw [size_alloc']; omega)).trans ((heap_alloc_old _ (.cells #[.int .i64 2, .int .u64 3, .int .u64 0] 34) (by omega)).trans ((f6_10).out)))
  have f7_11 : Hid (w11.heap[w7.heap.size]? = some (.cells #[.int .i64 0, .int .u64 0, .int .u64 0] 34)) := (hb.block _ (by rw [size_alloc', size_alloc']; omega)).trans ((heap_alloc_old _ (.cells #[.int .i64 1, .int .i64 2] 3) (by rw [size_alloc']; omega)).trans ((heap_alloc_old _ (.cells #[.int .i64 2, .int .u64 3, .int .u64 0] 34) (by omega)).trans ((f7_10).out)))
  have f10_11 : Hid (w11.heap[w10.heap.size]? = some (.cells #[.int .i64 2, .int .u64 3, .int .u64 0] 34)) := (hb.block _ (by rw [size_alloc', size_alloc']; omega)).trans ((heap_alloc_old (w10.alloc (.cells #[.int .i64 2, .int .u64 3, .int .u64 0] 34)) (.cells #[.int .i64 1, .int .i64 2] 3) (by rw [size_alloc']; omega)).trans (heap_alloc_new w10 (.cells #[.int .i64 2, .int .u64 3, .int .u64 0] 34)))
  clear hb
  have c60 : w11.cell? ⟨w6.heap.size, 0, none⟩ = some (.int .i64 4) := cell_of f6_11.out 0 rfl
  have c61 : w11.cell? ⟨w6.heap.size, 1, none⟩ = some (.int .u64 2) := cell_of f6_11.out 1 rfl
  have c62 : w11.cell? ⟨w6.heap.size, 2, none⟩ = some (.int .u64 0) := cell_of f6_11.out 2 rfl
  have c70 : w11.cell? ⟨w7.heap.size, 0, none⟩ = some (.int .i64 0) := cell_of f7_11.out 0 rfl
  have c71 : w11.cell? ⟨w7.heap.size, 1, none⟩ = some (.int .u64 0) := cell_of f7_11.out 1 rfl
  have c72 : w11.cell? ⟨w7.heap.size, 2, none⟩ = some (.int .u64 0) := cell_of f7_11.out 2 rfl
  have c100 : w11.cell? ⟨w10.heap.size, 0, none⟩ = some (.int .i64 2) := cell_of f10_11.out 0 rfl
  have c101 : w11.cell? ⟨w10.heap.size, 1, none⟩ = some (.int .u64 3) := cell_of f10_11.out 1 rfl
  have c102 : w11.cell? ⟨w10.heap.size, 2, none⟩ = some (.int .u64 0) := cell_of f10_11.out 2 rfl
  go_wp2_with fail
  refine (HCK.out _ B11).mono ?_
  rintro e w12 ⟨r2, cap2, rfl, hl, hr2, hb⟩
  have s12 := hb.size
  have B12 : Below w5.heap.size w5 w12 := B11.trans (hb.mono B11.size)
  have HLV : Hid _ := hl
  clear hb hl
  go_wp2_with fail
  refine (named_same (l := [⟨⟨#[120]⟩, ⟨4, 0, 0⟩⟩]) (c := cap2) (c' := 1) (fun j x hj t u hu => ?_) (fun j x hj t u hu => ?_) (by decide) (by rw [size_alloc']; omega) (by rw [size_alloc']; omega)).mono ?_
  · have h := HLV.out j x hj t u hu
    rw [World.cell?_of_block (heap_alloc_old _ _ hr2)]; exact h
  · match j, hj with
    | 0, hj =>
      obtain rfl := Option.some.inj hj
      rw [show 0 + 0 * 4 + t = t by omega]
      exact cell_of (heap_alloc_new w12 _) t (by simpa [Nv.cs] using hu)
    | k + 1, hj => simp at hj
  rintro e w13 ⟨rfl, hb⟩
  have B13 : Below w5.heap.size w5 w13 := (B12.alloc B12.size (.cells #[.string ⟨#[120]⟩, .int .i64 4, .int .u64 0, .int .u64 0] 60)).trans (hb.mono (by rw [size_alloc']; have := B12.size; omega))
  clear hb
  go_wp2_with fail
  go_ret
  exact ⟨rfl, hb5.trans (B13.mono hb5.size)⟩

/-- Both Applys answer the same of this slice, in every world that has grown out of w. -/
def Pairs (w : World) (p q : Int) (u : Value) : Prop := ∀ op : Int, ∃ (r : Bt) (er : Int), Hid (∀ wx, Below w.heap.size w wx → Rt 15 #[.int .i64 op, .int .i64 p, .int .i64 q, u] wx (.tuple #[.agg #[.int .i64 r.w, .int .u64 r.lo, .int .u64 r.hi], .int .i64 er])) ∧ Hid (∀ wx, Below w.heap.size w wx → Rt 16 #[.int .i64 op, .int .i64 p, .int .i64 q, u] wx (.tuple #[.agg #[.int .i64 r.w, .int .u64 r.lo, .int .u64 r.hi], .int .i64 er]))
theorem neb' (a b c : Int) (w : World) : (binOp .neq 34 (.agg #[.int .i64 a, .int .u64 b, .int .u64 c]) (.agg #[.int .i64 a, .int .u64 b, .int .u64 c])).run Tryz.prog w = .ok (.bool false) w := by simp [go_sem]

theorem walk_apply_few {a : Option Addr} {n c : Nat} (op p q : Int) (w : World) (hn : n ≤ 8) (HP : Hid (Pairs w p q (.slice a n c))) :
    Rt 4 #[.int .i64 op, .int .i64 p, .int .i64 q, .slice a n c] w (.bool true) := by
  have hqe := eqb
  have hqn := neb'
  have hgt : ¬ (8 : Int) < (n : Int) := by omega
  go_enter Tryz.func4, Tryz.ntmps4
  go_wp2_with fail
  refine (known4 _).mono ?_
  rintro e w1 ⟨rfl, B1⟩
  go_wp2_with fail
  go_loopw [9] (fun i wr => ∃ k : Int, -1 ≤ k ∧ k ≤ 46 ∧ i = .int .i64 k ∧ Below w.heap.size w wr) (fun i wr => (46 - intOf i).toNat)
  case atStart => exact ⟨-1, by omega, by omega, rfl, B1⟩
  case round =>
    obtain ⟨k, hk1, hk2, rfl, hbl⟩ := hrel
    by_cases hle : k ≤ 45
    · obtain ⟨r, er, c1, c2⟩ := HP.out k
      have hee : (er != er) = false := by simp
      go_wp2_with fail
      refine (c1.out _ hbl).mono ?_
      rintro e w2 ⟨rfl, hb⟩
      have s2 := hb.size
      have B2 : Below w.heap.size w w2 := (hbl).trans (hb.mono (hbl).size)
      clear hb
      go_wp2_with fail
      refine (c2.out _ (B2.alloc B2.size (.cells #[.int .i64 r.w, .int .u64 r.lo, .int .u64 r.hi] 34))).mono ?_
      rintro e w3 ⟨rfl, hb⟩
      have s3 := hb.size
      rw [size_alloc'] at s3
      have B3 : Below w.heap.size w w3 := (B2.alloc B2.size (.cells #[.int .i64 r.w, .int .u64 r.lo, .int .u64 r.hi] 34)).trans (hb.mono (by rw [size_alloc']; have := B2.size; omega))
      have hx : w3.heap[w2.heap.size]? = some (.cells #[.int .i64 r.w, .int .u64 r.lo, .int .u64 r.hi] 34) := (hb.block _ (by rw [size_alloc']; omega)).trans (heap_alloc_new w2 _)
      have x0 : w3.cell? ⟨w2.heap.size, 0, none⟩ = some (.int .i64 r.w) := cell_of hx 0 rfl
      have x1 : w3.cell? ⟨w2.heap.size, 1, none⟩ = some (.int .u64 r.lo) := cell_of hx 1 rfl
      have x2 : w3.cell? ⟨w2.heap.size, 2, none⟩ = some (.int .u64 r.hi) := cell_of hx 2 rfl
      have hl : w2.heap.size < w3.heap.size := by omega
      clear hb hx
      go_wp2_with fail
      exact ⟨⟨k + 1, by omega, by omega, by go_num, B3.alloc B3.size _⟩, by simp [intOf]; omega⟩
    · obtain ⟨r, er, c1, c2⟩ := HP.out op
      have hee : (er == er) = true := by simp
      go_wp2_with fail
      refine (c1.out _ hbl).mono ?_
      rintro e w2 ⟨rfl, hb⟩
      have s2 := hb.size
      have B2 : Below w.heap.size w w2 := (hbl).trans (hb.mono (hbl).size)
      clear hb
      go_wp2_with fail
      refine (c2.out _ (B2.alloc B2.size (.cells #[.int .i64 r.w, .int .u64 r.lo, .int .u64 r.hi] 34))).mono ?_
      rintro e w3 ⟨rfl, hb⟩
      have s3 := hb.size
      rw [size_alloc'] at s3
      have B3 : Below w.heap.size w w3 := (B2.alloc B2.size (.cells #[.int .i64 r.w, .int .u64 r.lo, .int .u64 r.hi] 34)).trans (hb.mono (by rw [size_alloc']; have := B2.size; omega))
      have hx : w3.heap[w2.heap.size]? = some (.cells #[.int .i64 r.w, .int .u64 r.lo, .int .u64 r.hi] 34) := (hb.block _ (by rw [size_alloc']; omega)).trans (heap_alloc_new w2 _)
      have x0 : w3.cell? ⟨w2.heap.size, 0, none⟩ = some (.int .i64 r.w) := cell_of hx 0 rfl
      have x1 : w3.cell? ⟨w2.heap.size, 1, none⟩ = some (.int .u64 r.lo) := cell_of hx 1 rfl
      have x2 : w3.cell? ⟨w2.heap.size, 2, none⟩ = some (.int .u64 r.hi) := cell_of hx 2 rfl
      have hl : w2.heap.size < w3.heap.size := by omega
      clear hb hx
      go_wp2_with fail
      go_ret
      exact ⟨rfl, B3.alloc B3.size _⟩
theorem walk_apply_many {a : Option Addr} {n c : Nat} (op p q : Int) (w : World) (hn : 8 < n) (hm : n ≤ maxLen) :
    Rt 4 #[.int .i64 op, .int .i64 p, .int .i64 q, .slice a n c] w (.bool true) := by
  have hgt : (8 : Int) < (n : Int) := by omega
  go_enter Tryz.func4, Tryz.ntmps4
  go_wp2_with fail
  refine (known4 _).mono ?_
  rintro e w1 ⟨rfl, B1⟩
  go_wp2_with fail
  go_ret
  exact ⟨rfl, B1⟩
theorem walk_apply_none {a : Option Addr} {c : Nat} (op p q : Int) (w : World) :
    Rt 4 #[.int .i64 op, .int .i64 p, .int .i64 q, .slice a 0 c] w (.bool true) := by
  refine walk_apply_few (n := 0) op p q w (by omega) (fun k => ?_)
  have h := srt_none (op := k) (p := p) (q := q)
  refine ⟨zBt, (srtF k p q []).2, fun wx _ => apply_none rfl (by rcases h with h | h <;> rw [h] <;> decide) wx, fun wx _ => dap_none rfl (by rcases h with h | h <;> rw [h] <;> decide) wx⟩
theorem walk_apply {g o c : Nat} {l : List Bt} (op p q : Int) (w : World) (h : Lb w g o l) (hg : g < w.heap.size) (hk : ∀ b ∈ l, Bk b) (hne : l ≠ []) (hm : l.length ≤ maxLen) (hp64 : p < 9223372036854775808) :
    Rt 4 #[.int .i64 op, .int .i64 p, .int .i64 q, .slice (some ⟨g, o, none⟩) l.length c] w (.bool true) := by
  by_cases hn : l.length ≤ 8
  · refine walk_apply_few op p q w hn (fun k => ?_)
    obtain ⟨r, er, c1, c2⟩ := apply_pair (op := k) (p := p) (q := q) hk hn hne hp64
    exact ⟨r, er, fun wx hb => c1 wx g o c (h.below hg hb) (Nat.lt_of_lt_of_le hg hb.size), fun wx hb => c2 wx g o c (h.below hg hb) (Nat.lt_of_lt_of_le hg hb.size)⟩
  · exact walk_apply_many op p q w (by omega) hm
theorem walk_apply_any {a : Option Addr} {c : Nat} {l : List Bt} (op p q : Int) (w : World) (hLa : Lba w a l) (hk : ∀ b ∈ l, Bk b) (hm : l.length ≤ maxLen) (wp : (Lit.int .i64 p).wf = true) :
    Rt 4 #[.int .i64 op, .int .i64 p, .int .i64 q, .slice a l.length c] w (.bool true) := by
  by_cases hne : l = []
  · subst hne; exact walk_apply_none op p q w
  · obtain ⟨g, o, rfl, hg, h⟩ := hLa.resolve_left hne
    exact walk_apply op p q w h hg hk hne hm (by have := (lit_i64 wp).2; omega)
end Go.Proofs.YtnflphhckgeneaaGreat
