import Derived.Test.YtcahhahbcijkiaaGreatMg18
namespace Go.Proofs.YtcahhahbcijkiaaGreat.Ag
set_option maxHeartbeats 12800000
set_option maxRecDepth 100000
open Go.RowKit
set_option linter.unusedSimpArgs false
set_option linter.unusedVariables false
def litV (f : Nat → Bool) (l : Nat) : Bool := f (l / 2) != decide (l % 2 = 1)
def sI (ins : List Int) (il : List Bool) : Nat → Nat → Bool
 | 0 => fun _ => false
 | i + 1 => fun j => if 2 * (j : Int) = ins.getD i 0 then il.getD i false else sI ins il i j
def sN (ks : List Kd) (s0 : Nat → Bool) : Nat → Nat → Bool
 | 0 => s0
 | t + 1 => fun j => if j = t ∧ isK (ks.getD t (0, 0)) = true then litV (sN ks s0 t) (ks.getD t (0, 0)).1 && litV (sN ks s0 t) (ks.getD t (0, 0)).2 else sN ks s0 t j
def s0F (ks : List Kd) (il : List Bool) : Nat → Bool := sI (insL ks) il (insL ks).length
def evV (ks : List Kd) (il : List Bool) (l : Nat) : Bool := litV (sN ks (s0F ks il) (l / 2 + 1)) l
def evF (ks : List Kd) (l : Int) (il : List Bool) : Bool × Int :=
 if litB ks.length l = false then (false, 80) else if il.length ≠ (insL ks).length then (false, 82) else (evV ks il l.toNat, 0)
def Bz (w : World) (v : Value) (l : List Bool) : Prop := ∃ a c, v = .slice a l.length c ∧ (l = [] ∨ ∃ r o, a = some ⟨r, o, none⟩ ∧ ∀ j, j < l.length → w.cell? ⟨r, o + j, none⟩ = some (.bool (l.getD j false)))
theorem and_one (l : Nat) (h : l < 1000000) : bits .and .i64 (l : Int) 1 = ((l % 2 : Nat) : Int) := by
 have h1 : bits .and .i64 (l : Int) 1 = IntKind.i64.wrap (((BitVec.ofInt 64 (l : Int) &&& BitVec.ofInt 64 1).toNat : Nat) : Int) := rfl
 rw [h1, IntKind.wrap_i64, BitVec.toNat_and, show (BitVec.ofInt 64 1).toNat = 1 from rfl, Nat.and_one_is_mod, BitVec.toNat_ofInt]
 have e64 : ((2 ^ 64 : Nat) : Int) = 18446744073709551616 := rfl
 rw [e64]
 omega
theorem valueOf_any {w : World} {b C c : Nat} {f : Nat → Bool} (h : w.rowIs b 4 C (fun j => .bool (f j))) {l : Nat} (hl : l / 2 < C) (hC : C ≤ 100000) :
  Calls Tryz.prog 45 #[.slice (some ⟨b, 0, none⟩) C c, .int .i64 (l : Int)] w fun e w' => e = .returned (.bool (litV f l)) ∧ w' = w := by
 have hc := h.cell hl
 have HN : Hid (∀ wx, Calls Tryz.prog 43 #[.int .i64 (l : Int)] wx fun e w' => e = .returned (.int .i64 ((l / 2 : Nat) : Int)) ∧ w' = wx) := fun wx => node_any l wx
 have ha := and_one l (by omega)
 have HV : Hid (litV f l = (f (l / 2) != decide (l % 2 = 1))) := rfl
 obtain ⟨L, hL⟩ : ∃ L, L = l / 2 := ⟨_, rfl⟩
 obtain ⟨Z, hZ⟩ : ∃ Z, Z = l % 2 := ⟨_, rfl⟩
 obtain ⟨V, hV⟩ : ∃ V, V = litV f l := ⟨_, rfl⟩
 obtain ⟨x, hx⟩ : ∃ x, x = f (l / 2) := ⟨_, rfl⟩
 rw [← hV]
 rw [← hx] at hc HV
 rw [← hL] at hl hc HN
 rw [← hZ] at ha HV
 rw [← hV] at HV
 have hl' : (L : Int) < (C : Int) := by omega
 have z : ((Z : Int) == 1) = decide (Z = 1) := by
  by_cases e : Z = 1
  ·subst e; rfl
  ·simp [e]; omega
 clear h hL hZ hV hx
 go_enter Tryz.func45, Tryz.ntmps45
 go_wp2_with fail
 refine (HN.out _).mono ?_
 rintro e wz ⟨rfl, hw⟩
 rw [hw]
 clear hw wz
 go_wp2_with fail
 go_ret
 refine ⟨?_, rfl⟩
 rw [HV.out]
 rfl
theorem Is'.any {w : World} {base : Nat} {v : Value} {l : List Int} (h : Is' w base v l) : ∃ a c, v = .slice a l.length c ∧ (l = [] ∨ ∃ r, a = some ⟨r, 0, none⟩ ∧ r < w.heap.size ∧ Li w r 0 l) := by
 by_cases hl : l = []
 ·subst hl
  rcases h.2 with ⟨rfl, hn⟩ | ⟨r, cap, cur, rfl, hb, hg, hc, _, hs, ht⟩
  ·exact ⟨none, 0, rfl, Or.inl rfl⟩
  ·exact ⟨_, cap, rfl, Or.inl rfl⟩
 ·obtain ⟨r, cap, rfl, hb, hc, hLi⟩ := h.li hl
  exact ⟨_, cap, rfl, Or.inr ⟨r, rfl, (World.ownsRow.lt h r rfl).2, hLi⟩⟩
theorem ins_lit {ks : List Kd} {i : Nat} (hi : i < (insL ks).length) : ∃ n : Nat, (insL ks).getD i 0 = 2 * (n : Int) ∧ 0 < n ∧ n < ks.length := by
 have hm : (insL ks).getD i 0 ∈ insL ks := by
  rw [List.getD_eq_getElem?_getD, List.getElem?_eq_getElem hi]; exact List.getElem_mem _
 obtain ⟨n, h1, h2, h3⟩ := mem_insL.1 hm
 exact ⟨n, h3, by omega, (List.getElem?_eq_some_iff.1 h1).1⟩
theorem eval_lit {w : World} {F : Nat → Prop} {g mo : Nat} {ks : List Kd} (h : Gr w F g mo ks) {l : Int} (hl : litB ks.length l = false) (v : Value) :
  Rt 26 #[.pointer (some ⟨g, 0, none⟩), .int .i64 l, v] w (.tuple #[.bool false, .int .i64 80]) := by
 have HH : Hid (∀ (wx : World) q, Below w.heap.size w wx → Li wx q 0 [l] → Rt 42 #[.pointer (some ⟨g, 0, none⟩), .slice (some ⟨q, 0, none⟩) 1 1] wx (.bool false)) := fun wx q hb hq => by
  have := has_any (h.below hb) (c := 1) hq (by simp)
  rw [show [l].all (litB ks.length) = litB ks.length l by simp, hl] at this
  exact this
 clear h hl
 go_enter Tryz.func26, Tryz.ntmps26
 go_wp2_with fail
 refine (HH.out _ _ (by go_grown) (Li_one w l _)).mono ?_
 rintro e w1 ⟨rfl, hb⟩
 have hb1 : Below w.heap.size w w1 := Below.trans (by go_grown) (hb.mono (by simp))
 clear hb
 go_wp2_with fail
 refine bodyPost_ret (v := .tuple #[.bool false, .int .i64 80]) (by simp [results, Tryz.results26, go_sem]) rfl ?_
 exact ⟨rfl, hb1⟩
theorem eval_in {w : World} {F : Nat → Prop} {g mo : Nat} {ks : List Kd} (h : Gr w F g mo ks) {l : Int} (hl : litB ks.length l = true) {v : Value} {il : List Bool} (hv : Bz w v il) (hn : il.length ≠ (insL ks).length) :
  Rt 26 #[.pointer (some ⟨g, 0, none⟩), .int .i64 l, v] w (.tuple #[.bool false, .int .i64 82]) := by
 have HH : Hid (∀ (wx : World) q, Below w.heap.size w wx → Li wx q 0 [l] → Rt 42 #[.pointer (some ⟨g, 0, none⟩), .slice (some ⟨q, 0, none⟩) 1 1] wx (.bool true)) := fun wx q hb hq => by
  have := has_any (h.below hb) (c := 1) hq (by simp)
  rw [show [l].all (litB ks.length) = litB ks.length l by simp, hl] at this
  exact this
 obtain ⟨m, v1, u, hx, -⟩ := h
 have hg := hx.lt
 have HC : Hid _ := hx.c3
 obtain ⟨a, c, rfl, -⟩ := hx.ins.any
 obtain ⟨a', c', rfl, -⟩ := hv
 obtain ⟨n, en⟩ : ∃ n, n = (insL ks).length := ⟨_, rfl⟩
 obtain ⟨n', en'⟩ : ∃ n', n' = il.length := ⟨_, rfl⟩
 rw [← en] at hn HC
 rw [← en'] at hn ⊢
 have z : ((n' : Int) == (n : Int)) = false := by simp; omega
 have z' : ((n' : Int) != (n : Int)) = true := by simp; omega
 clear hx hl en en'
 go_enter Tryz.func26, Tryz.ntmps26
 go_wp2_with fail
 refine (HH.out _ _ (by go_grown) (Li_one w l _)).mono ?_
 rintro e w1 ⟨rfl, hb⟩
 have hb1 : Below w.heap.size w w1 := Below.trans (by go_grown) (hb.mono (by simp))
 have c3 : w1.cell? ⟨g, 3, none⟩ = some (.slice a n c) := bel_cell hb1 hg HC.out
 clear hb
 go_wp2_with fail
 refine bodyPost_ret (v := .tuple #[.bool false, .int .i64 82]) (by simp [results, Tryz.results26, go_sem]) rfl ?_
 exact ⟨rfl, hb1⟩
theorem sI_step {ins : List Int} {il : List Bool} {k n : Nat} (h : ins.getD k 0 = 2 * (n : Int)) (j : Nat) : sI ins il (k + 1) j = if j = n then il.getD k false else sI ins il k j := by
 show (if 2 * (j : Int) = ins.getD k 0 then il.getD k false else sI ins il k j) = _
 rw [h]
 by_cases e : j = n
 ·rw [if_pos e, if_pos (by omega)]
 ·rw [if_neg e, if_neg (by omega)]
theorem sN_and {ks : List Kd} {s0 : Nat → Bool} {t : Nat} {k : Kd} (h : ks[t]? = some k) (hk : isK k = true) (j : Nat) : sN ks s0 (t + 1) j = if j = t then litV (sN ks s0 t) k.1 && litV (sN ks s0 t) k.2 else sN ks s0 t j := by
 show (if j = t ∧ isK (ks.getD t (0, 0)) = true then litV (sN ks s0 t) (ks.getD t (0, 0)).1 && litV (sN ks s0 t) (ks.getD t (0, 0)).2 else sN ks s0 t j) = _
 have e : ks.getD t (0, 0) = k := by rw [List.getD_eq_getElem?_getD, h]; rfl
 rw [e]
 by_cases q : j = t
 ·rw [if_pos ⟨q, hk⟩, if_pos q]
 ·rw [if_neg (fun x => q x.1), if_neg q]
theorem sN_in {ks : List Kd} {s0 : Nat → Bool} {t : Nat} {k : Kd} (h : ks[t]? = some k) (hk : isK k = false) : sN ks s0 (t + 1) = sN ks s0 t := by
 funext j
 show (if j = t ∧ isK (ks.getD t (0, 0)) = true then litV (sN ks s0 t) (ks.getD t (0, 0)).1 && litV (sN ks s0 t) (ks.getD t (0, 0)).2 else sN ks s0 t j) = _
 have e : ks.getD t (0, 0) = k := by rw [List.getD_eq_getElem?_getD, h]; rfl
 rw [e, hk, if_neg (by simp)]
theorem eval_yes {w : World} {F : Nat → Prop} {g mo : Nat} {ks : List Kd} (h : Gr w F g mo ks) {l : Nat} (hl : litB ks.length (l : Int) = true) {v : Value} {il : List Bool} (hv : Bz w v il) (hn : il.length = (insL ks).length) :
  Rt 26 #[.pointer (some ⟨g, 0, none⟩), .int .i64 (l : Int), v] w (.tuple #[.bool (evV ks il l), .int .i64 0]) := by
 have HH : Hid (∀ (wx : World) q, Below w.heap.size w wx → Li wx q 0 [(l : Int)] → Rt 42 #[.pointer (some ⟨g, 0, none⟩), .slice (some ⟨q, 0, none⟩) 1 1] wx (.bool true)) := fun wx q hb hq => by
  have := has_any (h.below hb) (c := 1) hq (by simp)
  rw [show [(l : Int)].all (litB ks.length) = litB ks.length l by simp, hl] at this
  exact this
 have hlen := h.len
 have hil := insL_len ks
 have hlt : l < 2 * ks.length := by have := litB_iff.1 hl; omega
 obtain ⟨m, v1, u, hx, -⟩ := h
 have HX : Hid _ := hx
 have HIV : Hid _ := hx.inv
 have hg := hx.lt
 have HC3 : Hid _ := hx.c3
 have HC1 : Hid _ := hx.c1
 obtain ⟨r, cap, rfl, hrl, -, hkc⟩ := hx.sl
 have hcap : ks.length ≤ cap := by
  rcases hx.row.2 with ⟨e, _⟩ | ⟨r', cap', cur, e, _, _, h5, _⟩
  ·cases e
  ·cases e; exact h5
 have HKC : Hid _ := hkc
 obtain ⟨a, c, rfl, hins⟩ := hx.ins.any
 have HINS : Hid _ := hins
 obtain ⟨a', c', rfl, hval⟩ := hv
 have HVAL : Hid _ := hval
 have HINL : Hid (∀ i, i < (insL ks).length → ∃ n : Nat, (insL ks).getD i 0 = 2 * (n : Int) ∧ 0 < n ∧ n < ks.length) := fun i hi => ins_lit hi
 obtain ⟨n, en⟩ : ∃ n, n = (insL ks).length := ⟨_, rfl⟩
 have HN : Hid _ := en
 rw [← en] at hn HC3 HINL hil
 rw [hn]
 have HIL : Hid _ := hn
 have z : ((n : Int) == (n : Int)) = true := by simp
 have z' : ((n : Int) != (n : Int)) = false := by simp
 obtain ⟨n0, en0⟩ : ∃ n0, n0 = l / 2 := ⟨_, rfl⟩
 obtain ⟨I, eI⟩ : ∃ I, I = n0 + 1 := ⟨_, rfl⟩
 have HNO : Hid (∀ wx, Calls Tryz.prog 43 #[.int .i64 (l : Int)] wx fun e w' => e = .returned (.int .i64 (n0 : Int)) ∧ w' = wx) := fun wx => by rw [en0]; exact node_any l wx
 have HNI : Hid (∀ (k : Nat) wx, Calls Tryz.prog 43 #[.int .i64 (2 * (k : Int))] wx fun e w' => e = .returned (.int .i64 (k : Int)) ∧ w' = wx) := fun k wx => by
  have := node_any (2 * k) wx
  rw [show 2 * k / 2 = k by omega, show ((2 * k : Nat) : Int) = 2 * (k : Int) by omega] at this
  exact this
 obtain ⟨N, eN⟩ : ∃ N, N = ks.length := ⟨_, rfl⟩
 have HNL : Hid _ := eN
 rw [← eN] at hlt hlen hil hcap HINL HC1
 have hI1 : (I : Int) ≤ (N : Int) := by omega
 have hI2 : (I : Int) ≤ (cap : Int) := by omega
 have hmk : ∀ wx, (Instr.makeSlice 67 (.int .i64 ((n0 : Int) + 1)) (.int .i64 ((n0 : Int) + 1))).run Tryz.prog wx = .ok (.slice (some ⟨wx.heap.size, 0, none⟩) I I) (wx.alloc (.cells (madeCells #[.bool false] I) 4)) := fun wx => by
  have hx := run_make_row' (P := Tryz.prog) 67 4 (.bool false) 1 underBools infoBool rfl .i64 .i64 I (by omega) (by omega) wx
  rw [show (I : Int) = (n0 : Int) + 1 by omega] at hx
  exact hx
 have HE0 : Hid _ := en0
 have HEI : Hid _ := eI
 have HEV : Hid (evV ks il l = litV (sN ks (s0F ks il) I) l) := by unfold Hid evV; rw [eI, en0]
 obtain ⟨V, hV⟩ : ∃ V, V = evV ks il l := ⟨_, rfl⟩
 rw [← hV] at HEV ⊢
 have HS0 : Hid (s0F ks il = sI (insL ks) il n) := by unfold Hid s0F; rw [en]
 have hlI : l / 2 < I := by omega
 have hI3 : I ≤ 40000 := by omega
 have hn0 : n0 < 40000 := by omega
 clear hx hl en hkc hins hval eN en0 eI hV hn
 go_enter Tryz.func26, Tryz.ntmps26
 go_wp2_with fail
 refine (HH.out _ _ (by go_grown) (Li_one w l _)).mono ?_
 rintro e w1 ⟨rfl, hb⟩
 have hb1 : Below w.heap.size w w1 := Below.trans (by go_grown) (hb.mono (by simp))
 have c3 : w1.cell? ⟨g, 3, none⟩ = some (.slice a n c) := bel_cell hb1 hg HC3.out
 have hs1 := hb1.size
 have hg1 : g < w1.heap.size := by omega
 clear hb HH
 go_wp2_with fail
 refine (HNO.out _).mono ?_
 rintro e wz ⟨rfl, hw⟩
 rw [hw]
 clear hw wz
 have HROW : Hid _ := World.rowIs_made w1 (.bool false) I 4
 go_wp2_with fail
 clear hmk c3
 go_loopw [35] (fun i wr => ∃ k : Nat, k ≤ n ∧ i = .int .i64 (k : Int) ∧ wr.rowIs w1.heap.size 4 I (fun j => .bool (sI (insL ks) il k j)) ∧ w1.heap.size + 1 ≤ wr.heap.size ∧ Below w1.heap.size w1 wr) (fun i wr => n - (intOf i).toNat)
 case atStart => exact ⟨0, Nat.zero_le _, rfl, HROW.out, by simp, by go_grown⟩
 case round =>
  clear HROW
  obtain ⟨k, hk, rfl, hrow, hws, hbl⟩ := hrel
  by_cases hkn : k < n
  ·obtain ⟨p, hp, hp0, hpN⟩ := HINL.out k hkn
   have hne : insL ks ≠ [] := fun e => by have := HN.out; rw [e] at this; simp at this; omega
   have hne2 : il ≠ [] := fun e => by have := HIL.out; rw [e] at this; simp at this; omega
   obtain ⟨r1, rfl, hr1, hLi⟩ := HINS.out.resolve_left hne
   obtain ⟨r2, o2, rfl, hVi⟩ := HVAL.out.resolve_left hne2
   have q1 := hLi k (by rw [← HN.out]; exact hkn)
   have q2 := hVi k (by rw [HIL.out]; exact hkn)
   rw [Nat.zero_add, hp] at q1
   have hbw : Below w.heap.size w wr := hb1.trans (hbl.mono hs1)
   have d1 : wr.cell? ⟨r1, k, none⟩ = some (.int .i64 (2 * (p : Int))) := keep_cell hbw q1
   have d2 : wr.cell? ⟨r2, o2 + k, none⟩ = some (.bool (il.getD k false)) := keep_cell hbw q2
   obtain ⟨x, hx⟩ : ∃ x, x = il.getD k false := ⟨_, rfl⟩
   rw [← hx] at d2
   have HST : Hid (∀ j, sI (insL ks) il (k + 1) j = if j = p then x else sI (insL ks) il k j) := fun j => by rw [hx]; exact sI_step hp j
   have hki : (k : Int) < (n : Int) := by omega
   have hr2 : r2 < wr.heap.size := World.block_lt_of_cell? _ _ d2
   have hr2' : r2 < w1.heap.size := Nat.lt_of_lt_of_le (World.block_lt_of_cell? _ _ q2) hs1
   have HNP : Hid (∀ wx, Calls Tryz.prog 43 #[.int .i64 (2 * (p : Int))] wx fun e w' => e = .returned (.int .i64 (p : Int)) ∧ w' = wx) := fun wx => HNI.out p wx
   have hk2 : (k : Int) < 40000 := by omega
   clear hx q1 q2 hLi hVi hp
   by_cases hle : 2 * p ≤ l
   ·have hle' : 2 * (p : Int) ≤ (l : Int) := by omega
    have hpI : p < I := by have := HE0.out; have := HEI.out; omega
    have hpI' : (p : Int) < (I : Int) := by omega
    have d3 : wr.cell? ⟨w1.heap.size, p, none⟩ = some (.bool (sI (insL ks) il k p)) := hrow.cell hpI
    have f3 := hrow.frozen p
    have HR2 : Hid (∀ wz : World, wz.heap[w1.heap.size]? = (wr.setCell ⟨w1.heap.size, p, none⟩ (.bool x)).heap[w1.heap.size]? → wz.rowIs w1.heap.size 4 I (fun j => .bool (sI (insL ks) il (k + 1) j))) := fun wz hz => ((hrow.set p (.bool x)).congr (fun j _ => by rw [HST.out j]; split <;> rfl)).of_block hz
    clear hrow
    go_wp2_with fail
    go_region_with ((go_at_call 43; refine (HNP.out _).mono ?_; rintro e wz ⟨rfl, hw⟩; rw [hw]; clear hw wz))
    all_goals
     go_wp2_with fail
     refine ⟨⟨k + 1, by omega, by go_num, HR2.out _ rfl, by show w1.heap.size + 1 ≤ (wr.setCell ⟨w1.heap.size, p, none⟩ (.bool x)).heap.size; rw [World.size_setCell]; exact hws, ?_⟩, by simp [intOf]; omega⟩
     go_grown
   ·have hle' : ¬ 2 * (p : Int) ≤ (l : Int) := by omega
    have hpI : I ≤ p := by have := HE0.out; have := HEI.out; omega
    have HR2 : Hid (wr.rowIs w1.heap.size 4 I (fun j => .bool (sI (insL ks) il (k + 1) j))) := hrow.congr (fun j hj => by rw [HST.out j, if_neg (by omega)])
    clear hrow
    go_wp2_with fail
    exact ⟨⟨k + 1, by omega, by go_num, HR2.out, hws, hbl⟩, by simp [intOf]; omega⟩
  ·obtain rfl : k = n := by omega
   have hki : ¬ (k : Int) < (k : Int) := by omega
   have hbw : Below w.heap.size w wr := hb1.trans (hbl.mono hs1)
   have c1 : wr.cell? ⟨g, 1, none⟩ = some (.slice (some ⟨r, 0, none⟩) N cap) := bel_cell hbw hg HC1.out
   have HR0 : Hid (wr.rowIs w1.heap.size 4 I (fun j => .bool (sN ks (s0F ks il) 0 j))) := hrow.congr (fun j hj => by rw [HS0.out]; rfl)
   have HB0 : Hid _ := hbl
   have hw0 := hws
   obtain ⟨w2, rfl⟩ : ∃ w2, w2 = wr := ⟨_, rfl⟩
   clear hrow hbl hws HINS HVAL HINL HNI HNO z z'
   go_wp2_with fail
   clear c1 hki
   go_loopw [60] (fun i wq => ∃ t : Nat, t ≤ I ∧ i = .int .i64 (t : Int) ∧ wq.rowIs w1.heap.size 4 I (fun j => .bool (sN ks (s0F ks il) t j)) ∧ w1.heap.size + 1 ≤ wq.heap.size ∧ Below w1.heap.size w1 wq) (fun i wq => I - (intOf i).toNat)
   case atStart => exact ⟨0, Nat.zero_le _, rfl, HR0.out, hw0, HB0.out⟩
   case round =>
    clear HR0 HB0 hw0
    obtain ⟨t, ht, rfl, hrow, hws, hbl⟩ := hrel
    by_cases htI : t < I
    ·obtain ⟨kd, hkd⟩ : ∃ kd, ks[t]? = some kd := ⟨_, List.getElem?_eq_getElem (by rw [← HNL.out]; omega)⟩
     have hbw : Below w.heap.size w wr := hb1.trans (hbl.mono hs1)
     obtain ⟨q0, q1⟩ := HKC.out t kd hkd
     have d0 : wr.cell? ⟨r, t * 2, none⟩ = some (.int .i64 (kd.1 : Int)) := keep_cell hbw q0
     have d1 : wr.cell? ⟨r, t * 2 + 1, none⟩ = some (.int .i64 (kd.2 : Int)) := keep_cell hbw q1
     have hti : (t : Int) < (I : Int) := by omega
     have hti2 : (t : Int) < 40000 := by omega
     have hrw : r < wr.heap.size := World.block_lt_of_cell? _ _ d0
     have HAN : Hid (∀ wx, Rt 44 #[.agg #[.int .i64 (kd.1 : Int), .int .i64 (kd.2 : Int)]] wx (.bool (isK kd))) := fun wx => isAnd_any kd wx
     have HKD : Hid _ := hkd
     clear q0 q1 hkd
     by_cases hk : isK kd = true
     ·have hkid := HIV.out.kid t kd HKD.out (fun e => by rw [e] at hk; simp [isK] at hk)
      have HST : Hid _ := sN_and (s0 := s0F ks il) HKD.out hk
      rw [hk] at HAN
      have HV : Hid (∀ (wx : World) (x : Nat), x < 2 * t → wx.rowIs w1.heap.size 4 I (fun j => .bool (sN ks (s0F ks il) t j)) → Calls Tryz.prog 45 #[.slice (some ⟨w1.heap.size, 0, none⟩) I I, .int .i64 (x : Int)] wx fun e w' => e = .returned (.bool (litV (sN ks (s0F ks il) t) x)) ∧ w' = wx) := fun wx x hx hr => valueOf_any hr (by omega) (by omega)
      obtain ⟨S, hS⟩ : ∃ S, S = sN ks (s0F ks il) t := ⟨_, rfl⟩
      rw [← hS] at HV HST hrow
      obtain ⟨k1, k2⟩ := kd
      dsimp only at d0 d1 HAN HST hkid
      obtain ⟨V1, hV1⟩ : ∃ V1, V1 = litV S k1 := ⟨_, rfl⟩
      obtain ⟨V2, hV2⟩ : ∃ V2, V2 = litV S k2 := ⟨_, rfl⟩
      rw [← hV1, ← hV2] at HST
      have HV1 : Hid (∀ wx : World, wx.rowIs w1.heap.size 4 I (fun j => .bool (S j)) → Calls Tryz.prog 45 #[.slice (some ⟨w1.heap.size, 0, none⟩) I I, .int .i64 (k1 : Int)] wx fun e w' => e = .returned (.bool V1) ∧ w' = wx) := fun wx hr => by rw [hV1]; exact HV.out wx k1 (by omega) hr
      have HV2 : Hid (∀ wx : World, wx.rowIs w1.heap.size 4 I (fun j => .bool (S j)) → Calls Tryz.prog 45 #[.slice (some ⟨w1.heap.size, 0, none⟩) I I, .int .i64 (k2 : Int)] wx fun e w' => e = .returned (.bool V2) ∧ w' = wx) := fun wx hr => by rw [hV2]; exact HV.out wx k2 (by omega) hr
      have HRW : Hid _ := hrow
      have HBL : Hid _ := hbl
      have hsw : w1.heap.size < wr.heap.size := by omega
      clear hS hV1 hV2 HV hkid hk hrow hbl HKC
      go_wp2_with fail
      refine (HAN.out _).mono ?_
      rintro e w3 ⟨rfl, hb3⟩
      have e0 : w3.cell? ⟨wr.heap.size, 0, none⟩ = some (.int .i64 (k1 : Int)) := keep_cell hb3 (by simp [go_sem])
      have e1 : w3.cell? ⟨wr.heap.size, 1, none⟩ = some (.int .i64 (k2 : Int)) := keep_cell hb3 (by simp [go_sem])
      have hs3 : wr.heap.size + 1 ≤ w3.heap.size := by have := hb3.size; simpa using this
      have hrow3 : w3.rowIs w1.heap.size 4 I (fun j => .bool (S j)) := (World.rowIs.alloc HRW.out _).of_block (hb3.block _ (by simp; omega))
      have d3 : w3.cell? ⟨w1.heap.size, t, none⟩ = some (.bool (S t)) := hrow3.cell htI
      have f3 := hrow3.frozen t
      have hb3' : Below w1.heap.size w1 w3 := HBL.out.trans (Below.trans (b := wr.alloc (.cells #[.int .i64 (k1 : Int), .int .i64 (k2 : Int)] 100)) (by go_grown) (hb3.mono (by simp; omega)))
      have HR3 : Hid _ := hrow3
      have HRN : Hid (∀ x, x = (V1 && V2) → (w3.setCell ⟨w1.heap.size, t, none⟩ (.bool x)).rowIs w1.heap.size 4 I (fun j => .bool (sN ks (s0F ks il) (t + 1) j))) := fun x hx => (hrow3.set t (.bool x)).congr (fun j _ => by rw [HST.out j, hx]; split <;> rfl)
      clear hb3 hrow3 HAN d0 d1 HRW HBL
      go_wp2_with fail
      refine (HV1.out _ HR3.out).mono ?_
      rintro e wz ⟨rfl, hw⟩
      rw [hw]
      clear hw wz
      cases V1
      ·go_wp2_with fail
       refine ⟨⟨t + 1, by omega, by go_num, HRN.out _ rfl, by rw [World.size_setCell]; omega, ?_⟩, by simp [intOf]; omega⟩
       go_grown
      ·go_wp2_with fail
       refine (HV2.out _ HR3.out).mono ?_
       rintro e wz ⟨rfl, hw⟩
       rw [hw]
       clear hw wz
       go_wp2_with fail
       refine ⟨⟨t + 1, by omega, by go_num, HRN.out _ rfl, by rw [World.size_setCell]; omega, ?_⟩, by simp [intOf]; omega⟩
       go_grown
     ·rw [Bool.not_eq_true] at hk
      have HST : Hid _ := sN_in (s0 := s0F ks il) HKD.out hk
      rw [hk] at HAN
      obtain ⟨k1, k2⟩ := kd
      dsimp only at d0 d1 HAN
      have HRW : Hid _ := hrow
      have HBL : Hid _ := hbl
      have hsw : w1.heap.size < wr.heap.size := by omega
      clear hk hrow hbl HKC
      go_wp2_with fail
      refine (HAN.out _).mono ?_
      rintro e w3 ⟨rfl, hb3⟩
      have hs3 : wr.heap.size + 1 ≤ w3.heap.size := by have := hb3.size; simpa using this
      have HR3 : Hid (w3.rowIs w1.heap.size 4 I (fun j => .bool (sN ks (s0F ks il) (t + 1) j))) := by
       unfold Hid
       rw [HST.out]
       exact (World.rowIs.alloc HRW.out _).of_block (hb3.block _ (by simp; omega))
      have hb3' : Below w1.heap.size w1 w3 := HBL.out.trans (Below.trans (b := wr.alloc (.cells #[.int .i64 (k1 : Int), .int .i64 (k2 : Int)] 100)) (by go_grown) (hb3.mono (by simp; omega)))
      clear hb3 HAN d0 d1 HRW HBL
      go_wp2_with fail
      exact ⟨⟨t + 1, by omega, by go_num, HR3.out, by omega, hb3'⟩, by simp [intOf]; omega⟩
    ·obtain rfl : t = I := by omega
     have HV : Hid (Calls Tryz.prog 45 #[.slice (some ⟨w1.heap.size, 0, none⟩) t t, .int .i64 (l : Int)] wr fun e w' => e = .returned (.bool V) ∧ w' = wr) := by
      unfold Hid
      rw [HEV.out]
      exact valueOf_any hrow hlI (by omega)
     have hbw : Below w.heap.size w wr := hb1.trans (hbl.mono hs1)
     clear hrow hbl
     go_wp2_with fail
     refine Calls.mono HV.out ?_
     rintro e wz ⟨rfl, hw⟩
     rw [hw]
     clear hw wz
     go_wp2_with fail
     refine bodyPost_ret (v := .tuple #[.bool V, .int .i64 0]) (by simp [results, Tryz.results26, go_sem]) rfl ?_
     exact ⟨rfl, hbw⟩
theorem eval_any {w : World} {F : Nat → Prop} {g mo : Nat} {ks : List Kd} (h : Gr w F g mo ks) (l : Int) {v : Value} {il : List Bool} (hv : Bz w v il) :
  Rt 26 #[.pointer (some ⟨g, 0, none⟩), .int .i64 l, v] w (.tuple #[.bool (evF ks l il).1, .int .i64 (evF ks l il).2]) := by
 unfold evF
 cases hl : litB ks.length l
 ·rw [if_pos rfl]; exact eval_lit h hl v
 ·rw [if_neg (by decide)]
  by_cases hn : il.length = (insL ks).length
  ·rw [if_neg (fun x => x hn)]
   obtain ⟨L, rfl⟩ : ∃ L : Nat, l = (L : Int) := ⟨l.toNat, by have := litB_iff.1 hl; omega⟩
   rw [Int.toNat_natCast]
   exact eval_yes h hl hv hn
  ·rw [if_pos hn]
   exact eval_in h hl hv hn
end Go.Proofs.YtcahhahbcijkiaaGreat.Ag
