import Derived.Test.YtcahhahbcijkiaaGreatMg36
namespace Go.Proofs.YtcahhahbcijkiaaGreat.Ag
set_option maxHeartbeats 12800000
set_option maxRecDepth 100000
open Go.RowKit
set_option linter.unusedSimpArgs false
set_option linter.unusedVariables false
section
variable {w : World} {F : Nat → Prop} {gs g mo : Nat} {s : Gz} {ua ub : Value} {A B : List Int}
theorem signedModulus_any (h : Gn w F gs g mo s) (hA : Wd w (FG F gs) ua A) (hB : Wd w (FG F gs) ub B) (oA : Oks s A) (oB : Oks s B) (hb2 : B.length ≤ 20000) (ha2 : A.length ≤ 20000) (hna : 0 < A.length) (hl : A.length = B.length) :
  Calls Tryz.prog 115 #[.pointer (some ⟨gs, 0, none⟩), ua, ub] w (WG w F gs g mo (smodF mo s A B)) := by
 have hpos := h.pos
 have HSR : Hid _ := signedRest_any h hA hB oA oB hb2 ha2 hna (by omega)
 have HTA : Hid (∀ wx F2, Ch w wx (FG F gs) (FG F2 gs) → Calls Tryz.prog 104 #[ua] wx fun ev w' => ev = .returned (.int .i64 (topO A)) ∧ w' = wx) := fun wx F2 hC => top_any (hA.ch hC) hna
 have HTB : Hid (∀ wx F2, Ch w wx (FG F gs) (FG F2 gs) → Calls Tryz.prog 104 #[ub] wx fun ev w' => ev = .returned (.int .i64 (topO B)) ∧ w' = wx) := fun wx F2 hC => top_any (hB.ch hC) (by omega)
 have oTA := topO_ok hpos oA
 have oTB := topO_ok hpos oB
 have HB : Hid _ := hB
 obtain ⟨q, hq⟩ : ∃ q, q = smodF mo s A B := ⟨_, rfl⟩
 rw [← hq]
 have k1 := srem_wok (mo := mo) (A := A) hpos hb2
 have HQ0 : q = sumF mo (wmaskedF mo (gAnd mo (gXor mo (anyF mo (sremF mo s A B).2 (sremF mo s A B).1).2 (topO A) (topO B)).2 (anyF mo (sremF mo s A B).2 (sremF mo s A B).1).1 (gXor mo (anyF mo (sremF mo s A B).2 (sremF mo s A B).1).2 (topO A) (topO B)).1).2 (gAnd mo (gXor mo (anyF mo (sremF mo s A B).2 (sremF mo s A B).1).2 (topO A) (topO B)).2 (anyF mo (sremF mo s A B).2 (sremF mo s A B).1).1 (gXor mo (anyF mo (sremF mo s A B).2 (sremF mo s A B).1).2 (topO A) (topO B)).1).1 B).2 (sremF mo s A B).1 (wmaskedF mo (gAnd mo (gXor mo (anyF mo (sremF mo s A B).2 (sremF mo s A B).1).2 (topO A) (topO B)).2 (anyF mo (sremF mo s A B).2 (sremF mo s A B).1).1 (gXor mo (anyF mo (sremF mo s A B).2 (sremF mo s A B).1).2 (topO A) (topO B)).1).2 (gAnd mo (gXor mo (anyF mo (sremF mo s A B).2 (sremF mo s A B).1).2 (topO A) (topO B)).2 (anyF mo (sremF mo s A B).2 (sremF mo s A B).1).1 (gXor mo (anyF mo (sremF mo s A B).2 (sremF mo s A B).1).2 (topO A) (topO B)).1).1 B).1 := hq
 obtain ⟨r, hr⟩ : ∃ r, r = sremF mo s A B := ⟨_, rfl⟩
 rw [← hr] at k1 HQ0 HSR
 have hp1 := pos_of k1.pre hpos
 have HAN : Hid (∀ wx F2 u, Gn wx F2 gs g mo r.2 → Wd wx (FG F2 gs) u r.1 → Calls Tryz.prog 131 #[.pointer (some ⟨gs, 0, none⟩), u] wx (GD wx F2 gs g mo (anyF mo r.2 r.1))) := fun wx F2 u hG hu => any_any hG hu k1.ok
 obtain ⟨y1, y2⟩ := anyF_ok (mo := mo) (L := r.1) hp1
 obtain ⟨y, hy⟩ : ∃ y, y = anyF mo r.2 r.1 := ⟨_, rfl⟩
 rw [← hy] at HAN HQ0 y1 y2
 have hp2 := pos_of y1 hp1
 obtain ⟨x1, x2⟩ := gXor_grow (mo := mo) (s := y.2) (a := topO A) (b := topO B) hp2
 have HXO : Hid (∀ wx F2, Gn wx F2 gs g mo y.2 → Calls Tryz.prog 129 #[.pointer (some ⟨gs, 0, none⟩), .int .i64 (topO A), .int .i64 (topO B)] wx (GD wx F2 gs g mo (gXor mo y.2 (topO A) (topO B)))) := fun wx F2 hG => gxor_any hG (oTA.grow (k1.pre.trans y1)) (oTB.grow (k1.pre.trans y1))
 obtain ⟨x, hx⟩ : ∃ x, x = gXor mo y.2 (topO A) (topO B) := ⟨_, rfl⟩
 rw [← hx] at HXO HQ0 x1 x2
 have hp3 := pos_of x1 hp2
 have z1 := gAnd_pre (mo := mo) (s := x.2) (a := y.1) (b := x.1)
 have z2 := gAnd_ok (mo := mo) (s := x.2) (a := y.1) (b := x.1) hp3
 have HAD : Hid (∀ wx F2, Gn wx F2 gs g mo x.2 → Calls Tryz.prog 127 #[.pointer (some ⟨gs, 0, none⟩), .int .i64 y.1, .int .i64 x.1] wx (GD wx F2 gs g mo (gAnd mo x.2 y.1 x.1))) := fun wx F2 hG => gand_any hG _ _ (y2.grow x1) x2
 obtain ⟨z, hz⟩ : ∃ z, z = gAnd mo x.2 y.1 x.1 := ⟨_, rfl⟩
 rw [← hz] at HAD HQ0 z1 z2
 have hp4 := pos_of z1 hp3
 have hall := ((k1.pre.trans y1).trans x1).trans z1
 have m1 := wmasked_wok (mo := mo) (A := B) hp4 z2 (oB.grow hall)
 have HMA : Hid (∀ wx F2, Gn wx F2 gs g mo z.2 → Ch w wx (FG F gs) (FG F2 gs) → Calls Tryz.prog 142 #[.pointer (some ⟨gs, 0, none⟩), .int .i64 z.1, ub] wx (WG wx F2 gs g mo (wmaskedF mo z.2 z.1 B))) := fun wx F2 hG hC => wmasked_any hG z2 (hB.ch hC) (oB.grow hall)
 obtain ⟨m, hm⟩ : ∃ m, m = wmaskedF mo z.2 z.1 B := ⟨_, rfl⟩
 rw [← hm] at HMA HQ0 m1
 have HSU : Hid (∀ wx F2 u u', Gn wx F2 gs g mo m.2 → Wd wx (FG F2 gs) u r.1 → Wd wx (FG F2 gs) u' m.1 → Calls Tryz.prog 108 #[.pointer (some ⟨gs, 0, none⟩), u, u'] wx (WG wx F2 gs g mo q)) := fun wx F2 u u' hG hu hv => by
  rw [HQ0]
  exact sum_any hG hu hv (by rw [k1.len, m1.len]; omega) (Oks.grow k1.ok (((y1.trans x1).trans z1).trans m1.pre)) m1.ok
 obtain ⟨tA, htA⟩ : ∃ t, t = topO A := ⟨_, rfl⟩
 obtain ⟨tB, htB⟩ : ∃ t, t = topO B := ⟨_, rfl⟩
 rw [← htA] at HTA HXO
 rw [← htB] at HTB HXO
 obtain ⟨a1, c1, rfl, -, -⟩ := hA.sl
 obtain ⟨a2, c2, rfl, -, -⟩ := hB.sl
 clear h hA hB oA oB hb2 ha2 hna hl oTA oTB k1 y1 y2 x1 x2 z1 z2 m1 hp1 hp2 hp3 hp4 hall hq HQ0 hr hy hx hz hm htA htB
 go_enter Tryz.func115, Tryz.ntmps115
 go_wp2_with fail
 refine Calls.mono HSR.out ?_
 rintro ev w2 ⟨u2, rfl, F2, hW2, hG2, hC2⟩
 have HE2 : Hid _ := HAN.out w2 F2 u2 hG2 hW2
 have HW2 : Hid (Wd w2 (FG F2 gs) u2 r.1) := hW2
 have HC2 : Hid (Ch w w2 (FG F gs) (FG F2 gs)) := hC2
 clear hW2 hG2 hC2 HSR
 go_wp2_with fail
 refine Calls.mono HE2.out ?_
 rintro ev w3 ⟨rfl, F3, hG3, hC3⟩
 have HC3 : Hid (Ch w w3 (FG F gs) (FG F3 gs)) := HC2.out.trans hC3
 have HW3 : Hid (Wd w3 (FG F3 gs) u2 r.1) := HW2.out.ch hC3
 have HE3 : Hid _ := HXO.out w3 F3 hG3
 clear hG3 hC3 HE2
 go_wp2_with fail
 refine (HTA.out _ _ HC3.out).mono ?_
 rintro ev wz ⟨rfl, hz⟩
 rw [hz]
 clear hz wz
 go_wp2_with fail
 refine (HTB.out _ _ HC3.out).mono ?_
 rintro ev wz ⟨rfl, hz⟩
 rw [hz]
 clear hz wz
 go_wp2_with fail
 refine Calls.mono HE3.out ?_
 rintro ev w4 ⟨rfl, F4, hG4, hC4⟩
 have HE4 : Hid _ := HAD.out w4 F4 hG4
 have HC4 : Hid (Ch w w4 (FG F gs) (FG F4 gs)) := HC3.out.trans hC4
 have HW4 : Hid (Wd w4 (FG F4 gs) u2 r.1) := HW3.out.ch hC4
 clear hG4 hC4 HE3
 go_wp2_with fail
 refine Calls.mono HE4.out ?_
 rintro ev w5 ⟨rfl, F5, hG5, hC5⟩
 have HC5 : Hid (Ch w w5 (FG F gs) (FG F5 gs)) := HC4.out.trans hC5
 have HE5 : Hid _ := HMA.out w5 F5 hG5 HC5.out
 have HW5 : Hid (Wd w5 (FG F5 gs) u2 r.1) := HW4.out.ch hC5
 clear hG5 hC5 HE4
 go_wp2_with fail
 refine Calls.mono HE5.out ?_
 rintro ev w6 ⟨u6, rfl, F6, hW6, hG6, hC6⟩
 have HE6 : Hid _ := HSU.out w6 F6 u2 u6 hG6 (HW5.out.ch hC6) hW6
 have HC6 : Hid (Ch w w6 (FG F gs) (FG F6 gs)) := HC5.out.trans hC6
 clear hW6 hG6 hC6 HE5
 go_wp2_with fail
 refine Calls.mono HE6.out ?_
 rintro ev w7 ⟨u7, rfl, F7, hW7, hG7, hC7⟩
 have HF : Hid (∃ F', Wd w7 (FG F' gs) u7 q.1 ∧ Gn w7 F' gs g mo q.2 ∧ Ch w w7 (FG F gs) (FG F' gs)) := ⟨F7, hW7, hG7, HC6.out.trans hC7⟩
 clear hW7 hG7 hC7 HE6
 go_wp2_with fail
 go_ret
 exact ⟨_, rfl, HF.out⟩
end
def b01 (b : Bool) : Int := if b then 1 else 0
theorem literal_any (b : Bool) (w : World) : Calls Tryz.prog 96 #[.bool b] w fun ev w' => ev = .returned (.int .i64 (b01 b)) ∧ w' = w := by
 cases b
 ·go_enter Tryz.func96, Tryz.ntmps96
  go_wp2_with fail
  go_ret
  exact ⟨rfl, rfl⟩
 ·go_enter Tryz.func96, Tryz.ntmps96
  go_wp2_with fail
  go_ret
  exact ⟨rfl, rfl⟩
section
variable {w : World} {D : Nat → Prop}
def cnL (f : Nat → Bool) (n : Nat) : List Int := (List.range n).map (fun i => b01 (f i))
theorem cnL_len (f : Nat → Bool) (n : Nat) : (cnL f n).length = n := by unfold cnL; rw [List.length_map, List.length_range]
theorem cnL_step (f : Nat → Bool) (n : Nat) : cnL f (n + 1) = cnL f n ++ [b01 (f n)] := by unfold cnL; rw [List.range_succ, List.map_append]; rfl
theorem constant_word {W : Nat} {lo hi : Int} {f : Nat → Bool} (hW : 0 < W) (hW2 : W ≤ 1000) (hb : ∀ i wx, i < W → Rt 97 #[.agg #[.int .i64 (W : Int), .int .u64 lo, .int .u64 hi], .int .i64 (i : Int)] wx (.tuple #[.bool (f i), .int .i64 0])) (hD : ∀ k, D k → k < w.heap.size) :
  Calls Tryz.prog 64 #[.agg #[.int .i64 (W : Int), .int .u64 lo, .int .u64 hi]] w fun ev w' => ∃ u', ev = .returned u' ∧ Wd w' D u' (cnL f W) ∧ Below w.heap.size w w' := by
 obtain ⟨ti, ht0, hz0, hz1, hz2⟩ := info_any infoInt
 have HI : Hid _ := (⟨ht0, hz0, hz1, hz2⟩ : Tryz.prog.info? 3 = some ti ∧ ti.zero = _ ∧ ti.size = 1 ∧ ti.bytes = 8)
 have HB : Hid _ := hb
 have HD : Hid _ := hD
 have z0 : ((W : Int) == 0) = false := by simp; omega
 clear hb hD ht0 hz0 hz1 hz2
 go_enter Tryz.func64, Tryz.ntmps64
 go_wp2_with fail
 obtain ⟨wb, hwb⟩ : ∃ wb, wb = w.alloc (Obj.cells #[Value.int IntKind.i64 (W : Int), Value.int IntKind.u64 lo, Value.int IntKind.u64 hi] 48) := ⟨_, rfl⟩
 rw [← hwb]
 have hnew : wb.heap[w.heap.size]? = some (Obj.cells #[Value.int IntKind.i64 (W : Int), Value.int IntKind.u64 lo, Value.int IntKind.u64 hi] 48) := by rw [hwb]; exact heap_alloc_new w _
 have hsb : wb.heap.size = w.heap.size + 1 := by rw [hwb]; simp
 have HBW : Hid (Below w.heap.size w wb) := by unfold Hid; rw [hwb]; go_grown
 have HC : Hid (∀ wx, Below wb.heap.size wb wx → wx.cell? ⟨w.heap.size, 0, none⟩ = some (.int .i64 (W : Int)) ∧ wx.cell? ⟨w.heap.size, 1, none⟩ = some (.int .u64 lo) ∧ wx.cell? ⟨w.heap.size, 2, none⟩ = some (.int .u64 hi)) := fun wx hb => by
  have e := (hb.block w.heap.size (by omega)).trans hnew
  exact ⟨cell_of e 0 rfl, cell_of e 1 rfl, cell_of e 2 rfl⟩
 have HSZ : Hid (wb.heap.size = w.heap.size + 1) := hsb
 clear hwb hnew hsb
 go_loopw [3, 17] (fun v i wr => ∃ k : Nat, k ≤ W ∧ i = .int .i64 (k : Int) ∧ Hid (Is' wr wb.heap.size v (cnL f k) ∧ Below wb.heap.size wb wr)) (fun v i wr => W - (intOf i).toNat)
 case atStart => exact ⟨0, Nat.zero_le _, rfl, World.ownsRow_nil _ _ _ _, Below.refl _ _⟩
 case round =>
  obtain ⟨k, hk, rfl, hH⟩ := hrel
  obtain ⟨c0, c1, c2⟩ := HC.out wr hH.out.2
  by_cases hkn : k < W
  ·have hkI : (k : Int) < (W : Int) := by omega
   have HBT : Hid _ := HB.out k wr hkn
   have HL : Hid (∀ wx, Calls Tryz.prog 96 #[.bool (f k)] wx fun ev w' => ev = .returned (.int .i64 (b01 (f k))) ∧ w' = wx) := fun wx => literal_any (f k) wx
   have HST : Hid (cnL f (k + 1) = cnL f k ++ [b01 (f k)]) := cnL_step f k
   have HLN : Hid ((cnL f k).length = k) := cnL_len f k
   obtain ⟨y, hy⟩ : ∃ y, y = b01 (f k) := ⟨_, rfl⟩
   rw [← hy] at HL HST
   obtain ⟨fb, hfb⟩ : ∃ y, y = f k := ⟨_, rfl⟩
   rw [← hfb] at HL HBT
   have hsr := hH.out.2.size
   clear hy hfb
   go_wp2_with fail
   refine Calls.mono HBT.out ?_
   rintro ev w2 ⟨rfl, hb2⟩
   have HB2 : Hid (Below wb.heap.size wb w2) := hH.out.2.trans (hb2.mono hsr)
   have HIS : Hid (Is' w2 wb.heap.size u3 (cnL f k)) := row_kept hH.out.1 (fun q hq => hb2.block q hq)
   have hs2 : wb.heap.size ≤ w2.heap.size := HB2.out.size
   clear hb2 HBT c0 c1 c2
   go_wp2_with fail
   refine (HL.out _).mono ?_
   rintro ev wz ⟨rfl, hz⟩
   rw [hz]
   clear hz wz
   go_wp2_with (at_builtin; refine wpList_append_own_at _ rfl _ _ 81 rfl wb.heap.size 3 ti _ 1 8 underWord HI.out.1 HI.out.2.1 HI.out.2.2.1 HI.out.2.2.2 rfl (by decide) _ _ _ rfl (row_kept HIS.out (fun _ hq => heap_alloc_old _ _ hq)) ⟨w2.heap.size, 0, none⟩ 1 1 [_] rfl rfl (cell_one_new _ _ _) (fun u hu => by rw [List.mem_singleton.1 hu]; rfl) (by rw [HLN.out]; unfold maxLen; omega) (by rw [HLN.out]; omega) (by simp; omega) ?_; intro v1 w3 hown hgrow hnil hat)
   have HI3 : Hid (Is' w3 wb.heap.size v1 (cnL f (k + 1))) := by
    unfold Hid Is'
    rw [HST.out, List.length_append, List.map_append]
    exact hown
   have hb3 : Below wb.heap.size wb w3 := low_grown HB2.out hs2 hgrow (fun z hz => (World.ownsRow.lt HIS.out z hz).1)
   clear hown hgrow hnil hat
   (try go_wp2_with fail)
   exact ⟨⟨k + 1, by omega, by go_num, HI3.out, hb3⟩, by simp [intOf]; omega⟩
  ·obtain rfl : k = W := by omega
   have hkI : ¬ (k : Int) < (k : Int) := by omega
   have hsr := hH.out.2.size
   have HW : Hid (Wd wr D u3 (cnL f k)) := Is'.wd hH.out.1 (fun j hj => by have := HD.out j hj; have := HSZ.out; omega) (by rw [cnL_len]; omega)
   have HBR : Hid (Below w.heap.size w wr) := HBW.out.trans (hH.out.2.mono (by have := HSZ.out; omega))
   go_wp2_with fail
   go_ret
   exact ⟨_, rfl, HW.out, HBR.out⟩
end
open Go.RowKit
section
variable {w : World} {D : Nat → Prop}
theorem constant_bool {b : Bool} (hb : ∀ wx, Rt 66 #[.bool true] wx (.agg #[.int .i64 0, .int .u64 1, .int .u64 0])) (hD : ∀ k, D k → k < w.heap.size) :
  Calls Tryz.prog 64 #[.agg #[.int .i64 0, .int .u64 (b01 b), .int .u64 0]] w fun ev w' => ∃ u', ev = .returned u' ∧ Wd w' D u' [b01 b] ∧ Below w.heap.size w w' := by
 have HB : Hid _ := hb
 have HD : Hid _ := hD
 have HL : Hid (∀ (c : Bool) wx, Calls Tryz.prog 96 #[.bool c] wx fun ev w' => ev = .returned (.int .i64 (b01 c)) ∧ w' = wx) := fun c wx => literal_any c wx
 have HF : Hid (∀ w2 : World, Below w.heap.size w w2 → ∃ u', Ending.returned (.slice (some ⟨w2.heap.size, 0, none⟩) 1 1) = .returned u' ∧ Wd (w2.alloc (.cells #[.int .i64 (b01 b)] 3)) D u' [b01 b] ∧ Below w.heap.size w (w2.alloc (.cells #[.int .i64 (b01 b)] 3))) := fun w2 hb2 => by
  have hb3 : Below w2.heap.size w2 (w2.alloc (.cells #[.int .i64 (b01 b)] 3)) := by go_grown
  have hs := hb2.size
  refine ⟨_, rfl, ⟨_, 1, rfl, Nat.le_refl _, by simp, (fun e => by cases e), Or.inr ⟨w2.heap.size, 0, rfl, by simp, fun e => by have := hD _ e; omega, fun j hj => ?_⟩⟩, hb2.trans (hb3.mono hs)⟩
  have : j = 0 := by simpa using hj
  subst this
  exact cell_of (heap_alloc_new w2 _) 0 rfl
 clear hb hD
 cases b
 ·have e0 : b01 false = 0 := rfl
  rw [e0] at HF ⊢
  have eq0 : ∀ (wx : World), (binOp .eql 48 (.agg #[.int .i64 0, .int .u64 0, .int .u64 0]) (.agg #[.int .i64 0, .int .u64 1, .int .u64 0])).run Tryz.prog wx = .ok (.bool false) wx := fun wx => by simp [go_sem]
  have HL2 : Hid (∀ wx, Calls Tryz.prog 96 #[.bool false] wx fun ev w' => ev = .returned (.int .i64 0) ∧ w' = wx) := fun wx => HL.out false wx
  clear HL
  go_enter Tryz.func64, Tryz.ntmps64
  go_wp2_with fail
  obtain ⟨wb, hwb⟩ : ∃ wb, wb = w.alloc (Obj.cells #[Value.int IntKind.i64 0, Value.int IntKind.u64 0, Value.int IntKind.u64 0] 48) := ⟨_, rfl⟩
  rw [← hwb]
  have hnew : wb.heap[w.heap.size]? = some (Obj.cells #[Value.int IntKind.i64 0, Value.int IntKind.u64 0, Value.int IntKind.u64 0] 48) := by rw [hwb]; exact heap_alloc_new w _
  have hlt : w.heap.size < wb.heap.size := (Array.getElem?_eq_some_iff.1 hnew).1
  have HBW : Hid (Below w.heap.size w wb) := by unfold Hid; rw [hwb]; go_grown
  have HC : Hid (∀ wx, Below wb.heap.size wb wx → wx.cell? ⟨w.heap.size, 0, none⟩ = some (.int .i64 0) ∧ wx.cell? ⟨w.heap.size, 1, none⟩ = some (.int .u64 0) ∧ wx.cell? ⟨w.heap.size, 2, none⟩ = some (.int .u64 0)) := fun wx hb => by
   have e := (hb.block w.heap.size hlt).trans hnew
   exact ⟨cell_of e 0 rfl, cell_of e 1 rfl, cell_of e 2 rfl⟩
  obtain ⟨d0, d1, d2⟩ := HC.out wb.drew (drew_b _)
  clear hwb hnew hlt
  go_region_with (first | (go_at_call 66; refine (HB.out _).mono ?_; rintro ev w2 ⟨rfl, hb2⟩; have hb3 : Below wb.heap.size wb w2 := (drew_b wb).trans hb2; obtain ⟨f0, f1, f2⟩ := HC.out w2 hb3) | (go_at_call 96; refine (HL2.out _).mono ?_; rintro ev wz ⟨rfl, hz⟩; rw [hz]; clear hz wz))
  all_goals
   have HF2 : Hid _ := HF.out w2 (HBW.out.trans (hb3.mono HBW.out.size))
   clear hb2 hb3 d0 d1 d2 f0 f1 f2
   go_wp2_with fail
   go_ret
   exact HF2.out
 ·have e0 : b01 true = 1 := rfl
  rw [e0] at HF ⊢
  have eq0 : ∀ (wx : World), (binOp .eql 48 (.agg #[.int .i64 0, .int .u64 1, .int .u64 0]) (.agg #[.int .i64 0, .int .u64 1, .int .u64 0])).run Tryz.prog wx = .ok (.bool true) wx := fun wx => by simp [go_sem]
  have HL2 : Hid (∀ wx, Calls Tryz.prog 96 #[.bool true] wx fun ev w' => ev = .returned (.int .i64 1) ∧ w' = wx) := fun wx => HL.out true wx
  clear HL
  go_enter Tryz.func64, Tryz.ntmps64
  go_wp2_with fail
  obtain ⟨wb, hwb⟩ : ∃ wb, wb = w.alloc (Obj.cells #[Value.int IntKind.i64 0, Value.int IntKind.u64 1, Value.int IntKind.u64 0] 48) := ⟨_, rfl⟩
  rw [← hwb]
  have hnew : wb.heap[w.heap.size]? = some (Obj.cells #[Value.int IntKind.i64 0, Value.int IntKind.u64 1, Value.int IntKind.u64 0] 48) := by rw [hwb]; exact heap_alloc_new w _
  have hlt : w.heap.size < wb.heap.size := (Array.getElem?_eq_some_iff.1 hnew).1
  have HBW : Hid (Below w.heap.size w wb) := by unfold Hid; rw [hwb]; go_grown
  have HC : Hid (∀ wx, Below wb.heap.size wb wx → wx.cell? ⟨w.heap.size, 0, none⟩ = some (.int .i64 0) ∧ wx.cell? ⟨w.heap.size, 1, none⟩ = some (.int .u64 1) ∧ wx.cell? ⟨w.heap.size, 2, none⟩ = some (.int .u64 0)) := fun wx hb => by
   have e := (hb.block w.heap.size hlt).trans hnew
   exact ⟨cell_of e 0 rfl, cell_of e 1 rfl, cell_of e 2 rfl⟩
  obtain ⟨d0, d1, d2⟩ := HC.out wb.drew (drew_b _)
  clear hwb hnew hlt
  go_region_with (first | (go_at_call 66; refine (HB.out _).mono ?_; rintro ev w2 ⟨rfl, hb2⟩; have hb3 : Below wb.heap.size wb w2 := (drew_b wb).trans hb2; obtain ⟨f0, f1, f2⟩ := HC.out w2 hb3) | (go_at_call 96; refine (HL2.out _).mono ?_; rintro ev wz ⟨rfl, hz⟩; rw [hz]; clear hz wz))
  all_goals
   have HF2 : Hid _ := HF.out w2 (HBW.out.trans (hb3.mono HBW.out.size))
   clear hb2 hb3 d0 d1 d2 f0 f1 f2
   go_wp2_with fail
   go_ret
   exact HF2.out
end
end Go.Proofs.YtcahhahbcijkiaaGreat.Ag
