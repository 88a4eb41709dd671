/- The laws' world: any step. -/
import Derived.Test.YtohfjpahdoodgaaGreatDoorDE31
import Derived.Test.YtohfjpahdoodgaaGreatDoorDE32
import Derived.Test.YtohfjpahdoodgaaGreatDoorDE33
import Derived.Test.YtohfjpahdoodgaaGreatDoorDE34
import Derived.Test.YtohfjpahdoodgaaGreatDoorDE35
import Derived.Test.YtohfjpahdoodgaaGreatDoorDE36
import Derived.Test.YtohfjpahdoodgaaGreatDoorDE37
import Derived.Test.YtohfjpahdoodgaaGreatDoorDE39
import Derived.Deep.Slices
import Derived.ProofKit
import Derived.OpenShut
namespace Go.Proofs.YtohfjpahdoodgaaGreatDoor
open Go.RowKit
set_option linter.unusedSimpArgs false
set_option linter.unusedVariables false

theorem does_any {w0 : Wx} {w : World} {F : Nat → Prop} {wb g n most : Nat} {lv : Value} {S : St} {pn : Int → Int} {H : List HT} (h : Hf w0 w F wb lv g n most S pn H) (pu : Pu n S pn H) (hn : n ≤ 7) (hroom : cntF S.ns + 2 ^ n ≤ most + 1) (hfew : H.length ≤ 40) (q qa qb qc : Int) :
    Calls Tryz.prog 6 #[.pointer (some ⟨wb, 0, none⟩), .agg #[.int .i64 q, .int .i64 qa, .int .i64 qb, .int .i64 qc]] w fun e w' => e = .returned (.tuple #[]) ∧ DoR w0 w' wb g n most S H := by
  by_cases hx : q < 0 ∨ 6 < q
  · exact does_x h pu hn hroom hfew q qa qb qc hx
  · rcases (show q = 0 ∨ q = 1 ∨ q = 2 ∨ q = 3 ∨ q = 4 ∨ q = 5 ∨ q = 6 by omega) with rfl | rfl | rfl | rfl | rfl | rfl | rfl
    · exact does_0 h pu hn hroom hfew qa qb qc
    · exact does_1 h pu hn hroom hfew qa qb qc
    · exact does_2 h pu hn hroom hfew qa qb qc
    · exact does_3 h pu hn hroom hfew qa qb qc
    · exact does_4 h pu hn hroom hfew qa qb qc
    · exact does_5 h pu hn hroom hfew qa qb qc
    · exact does_6 h pu hn hroom hfew qa qb qc
end Go.Proofs.YtohfjpahdoodgaaGreatDoor

/- The laws' world: how it begins. -/
namespace Go.Proofs.YtohfjpahdoodgaaGreatDoor
open Go.RowKit
set_option linter.unusedSimpArgs false
set_option linter.unusedVariables false

theorem varsOf_nat {n : Nat} (h : n ≤ 6) : varsOf (n : Int) = n := by unfold varsOf; omega
theorem pu0 {n : Nat} {u0 u1 : Value} : Pu n (St0 n) (fun _ => 0) [(0, u0, tabV n (fun _ => false)), (1, u1, tabV n (fun _ => true))] := by
  refine ⟨⟨u0, u1, [], rfl⟩, fun p hp => ?_, fun f => ?_⟩
  · simp only [List.mem_cons, List.not_mem_nil, or_false] at hp
    have g : Good n (St0 n).ns (St0 n).sp := ⟨Nat.le_refl 2, rfl, rfl, fun i h2 ha => absurd ha.2.1 (by have : (St0 n).ns.length = 2 := rfl; omega), fun i j h2 _ hi => absurd hi.2.1 (by have : (St0 n).ns.length = 2 := rfl; omega), (fun s hs => nomatch hs), List.nodup_nil⟩
    rcases hp with rfl | rfl
    · exact ⟨g.a0, tabV_congr fun x => ((val_01 n _ x).1).symm⟩
    · exact ⟨g.a1, tabV_congr fun x => ((val_01 n _ x).2).symm⟩
  · by_cases h2 : 2 ≤ f
    · rw [if_pos h2]
      have e0 : ((0 : Int) == f) = false := by simp; omega
      have e1 : ((1 : Int) == f) = false := by simp; omega
      simp [List.count_cons, e0, e1]
    · rw [if_neg h2]
set_option maxRecDepth 20000 in
set_option maxHeartbeats 3200000 in
theorem begun_any (nn mm : Int) (w : World) {n : Nat} (hn : (n : Int) = nn % 7) :
    Calls Tryz.prog 5 #[.int .i64 nn, .int .i64 mm] w fun e w' => ∃ wb F lv g H, e = .returned (.pointer (some ⟨wb, 0, none⟩)) ∧ Hf (wx w) w' F wb lv g n (mostOf mm) (St0 n) (fun _ => 0) H ∧ Pu n (St0 n) (fun _ => 0) H ∧ H.length = 2 := by
  have hn6 : n ≤ 6 := by have := Int.emod_lt_of_pos nn (show (0 : Int) < 7 by decide); omega
  have hPL := place_any (k := nn) (n := 7) (by decide) (by decide) w
  rw [← hn] at hPL
  have HPL : Hid _ := hPL
  have HNW : Hid _ := new_any (n : Int) mm w
  have eM : min (max mm 2) 16384 = (mostOf mm : Int) := by unfold mostOf; omega
  clear hn hPL
  go_enter Tryz.func5, Tryz.ntmps5
  go_wp2_with fail
  refine Calls.mono HPL.out ?_
  rintro e w1 ⟨rfl, hw1⟩
  rw [hw1]
  clear hw1 w1
  go_wp2_with fail
  refine Calls.mono HNW.out ?_
  rintro e w1 ⟨g, rfl, hg, hb1, hG⟩
  rw [varsOf_nat hn6] at hG
  have HG : Hid (Gr w1 (fun k => w.heap.size ≤ k ∧ k < w1.heap.size) g n (mostOf mm) (St0 n) (fun _ => 0)) := hG
  have HB1 : Hid _ := hb1
  clear hG hb1 HNW HPL
  go_upto_region 3 with fail
  obtain ⟨w2, hw2⟩ : ∃ w2, w2 = w1.alloc (.cells #[.pointer (some ⟨g, 0, none⟩), .int .i64 (n : Int), .int .i64 (mostOf mm : Int), .slice none 0 0, .bool true] 29) := ⟨_, rfl⟩
  have hwc : w2.heap[w1.heap.size]? = some (.cells #[.pointer (some ⟨g, 0, none⟩), .int .i64 (n : Int), .int .i64 (mostOf mm : Int), .slice none 0 0, .bool true] 29 (0, 0)) := by rw [hw2]; exact heap_alloc_new _ _
  have HB2 : Hid (Below w1.heap.size w1 w2) := by unfold Hid; rw [hw2]; exact (Below.refl _ _).alloc (Nat.le_refl _) _
  obtain ⟨wb, hwb⟩ : ∃ wb, wb = w1.heap.size := ⟨_, rfl⟩
  rw [← hw2, ← hwb]
  rw [← hwb] at hwc
  have HWB : Hid (wb = w1.heap.size) := hwb
  have HWC : Hid _ := hwc
  have hlw := blk_lt hwc
  have HC0 : Hid _ := tconst_any (n := n) (by omega) false w2
  clear hw2 hwb hwc
  go_wp2_with fail
  refine Calls.mono HC0.out ?_
  rintro e w3 ⟨u0, rfl, hu0⟩
  obtain ⟨r0, e0⟩ := hu0.ex
  rw [tabV_len'] at e0
  subst e0
  have HU0 : Hid _ := hu0
  have HC1 : Hid _ := tconst_any (n := n) (by omega) true w3
  clear HC0 hu0
  go_wp2_with fail
  refine Calls.mono HC1.out ?_
  rintro e w4 ⟨u1, rfl, hu1⟩
  obtain ⟨r1, e1⟩ := hu1.ex
  rw [tabV_len'] at e1
  subst e1
  have HU1 : Hid _ := hu1
  clear HC1 hu1
  have hB4 : Below w2.heap.size w2 w4 := HU0.out.bel.trans (HU1.out.bel.mono HU0.out.bel.size)
  obtain ⟨w5, hw5⟩ : ∃ w5, w5 = w4.alloc (.cells #[.int .i64 0, .slice (some ⟨r0, 0, none⟩) (N2 n) (N2 n), .int .i64 1, .slice (some ⟨r1, 0, none⟩) (N2 n) (N2 n)] 36) := ⟨_, rfl⟩
  have hB5 : Below w4.heap.size w4 w5 := by rw [hw5]; exact (Below.refl _ _).alloc (Nat.le_refl _) _
  have hh5 : w5.heap[w4.heap.size]? = some (.cells #[.int .i64 0, .slice (some ⟨r0, 0, none⟩) (N2 n) (N2 n), .int .i64 1, .slice (some ⟨r1, 0, none⟩) (N2 n) (N2 n)] 36 (0, 0)) := by rw [hw5]; exact heap_alloc_new _ _
  have hB25 : Below w2.heap.size w2 w5 := hB4.trans (hB5.mono hB4.size)
  have hwc5 := (hB25.block wb hlw).trans HWC.out
  have c3 : w5.cell? ⟨wb, 3, none⟩ = some (.slice none 0 0) := cell_of hwc5 3 rfl
  have f3 : w5.frozen? ⟨wb, 3, none⟩ = false := frz hwc5 3
  rw [hw5] at c3 f3
  go_wp2_with fail
  go_ret
  rw [← hw5]
  clear c3 f3
  have s4 : w1.heap.size < w4.heap.size := by have := hB4.size; have := HWB.out; omega
  have hs : (w5.setCell ⟨wb, 3, none⟩ (.slice (some ⟨w4.heap.size, 0, none⟩) 2 2)).heap[wb]? = some (.cells #[.pointer (some ⟨g, 0, none⟩), .int .i64 (n : Int), .int .i64 (mostOf mm : Int), .slice (some ⟨w4.heap.size, 0, none⟩) 2 2, .bool true] 29 (0, 0)) := by
    have := heap_setCell_same w5 wb 3 _ _ (.slice (some ⟨w4.heap.size, 0, none⟩) 2 2) hwc5
    simpa using this
  have ho : ∀ k, k ≠ wb → (w5.setCell ⟨wb, 3, none⟩ (.slice (some ⟨w4.heap.size, 0, none⟩) 2 2)).heap[k]? = w5.heap[k]? := fun k e => heap_setCell_other _ _ _ _ (show k ≠ wb from e)
  have hB15 : Below w1.heap.size w1 w5 := HB2.out.trans (hB25.mono HB2.out.size)
  have hwb := HWB.out
  have hs1 := HB1.out.size
  refine ⟨wb, fun k => w.heap.size ≤ k ∧ k < w1.heap.size, _, g, [(0, .slice (some ⟨r0, 0, none⟩) (N2 n) (N2 n), tabV n (fun _ => false)), (1, .slice (some ⟨r1, 0, none⟩) (N2 n) (N2 n), tabV n (fun _ => true))], rfl, ⟨?_, ⟨?_, rfl, [], fun f => by simp, fun p hp => nomatch hp⟩, fun k hk => hk.1, fun q => by omega, by show w.heap.size ≤ wb; omega, hs, ⟨?_, ?_, ?_⟩, by simp, fun _ _ e => nomatch e⟩, pu0, rfl⟩
  · exact (HB1.out.trans (hB15.mono hs1)).setCell (p := ⟨wb, 3, none⟩) (by show w.heap.size ≤ wb; omega) _
  · exact Gr.kept HG.out fun k hk hf => (ho k (by omega)).trans (hB15.block k hk)
  · refine ⟨rfl, Or.inr ⟨w4.heap.size, 2, _, rfl, by show w.heap.size ≤ _; omega, (ho _ (by omega)).trans hh5, Nat.le_refl _, by decide, rfl, rfl⟩⟩
  · intro b e hf
    have q : some w4.heap.size = some b := e
    injection q with q
    have h2 : b < w1.heap.size := hf.2
    omega
  · intro p hp
    simp only [List.mem_cons, List.not_mem_nil, or_false] at hp
    have hk : ∀ (x : World) (k : Nat) (cs : Array Value), Below x.heap.size x w5 → x.heap[k]? = some (.cells cs 4 (0, 0)) → k ≠ wb → (w5.setCell ⟨wb, 3, none⟩ (.slice (some ⟨w4.heap.size, 0, none⟩) 2 2)).heap[k]? = x.heap[k]? := fun x k cs hb e hne => (ho k hne).trans (hb.block k (blk_lt e))
    rcases hp with rfl | rfl
    · refine (Tn.tb (F := fun k => w.heap.size ≤ k ∧ k < w1.heap.size) (B := w.heap.size) HU0.out (by omega) (fun k hk => by omega)).keep fun k cs e hf => ⟨hk w3 k cs (HU1.out.bel.trans (hB5.mono HU1.out.bel.size)) e (fun q => ?_), hf⟩
      subst q
      rw [HU0.out.bel.block _ hlw, HWC.out] at e
      cases e
    · refine (Tn.tb (F := fun k => w.heap.size ≤ k ∧ k < w1.heap.size) (B := w.heap.size) HU1.out (by have := HU0.out.bel.size; omega) (fun k hk => by have := HU0.out.bel.size; omega)).keep fun k cs e hf => ⟨hk w4 k cs hB5 e (fun q => ?_), hf⟩
      subst q
      rw [hB4.block _ hlw, HWC.out] at e
      cases e
end Go.Proofs.YtohfjpahdoodgaaGreatDoor

/- Slices of steps and of truths that are handed in: what their cells hold. -/
namespace Go.Proofs.YtohfjpahdoodgaaGreatDoor
open Go.RowKit Go.ChangeShapes Go.WideShapes Go.Deep

/-- A step. -/
structure Sp4 where
  what : Int
  a : Int
  b : Int
  c : Int
def Sp4.cs (s : Sp4) : List Value := [.int .i64 s.what, .int .i64 s.a, .int .i64 s.b, .int .i64 s.c]
/-- The cells behind g, o hold the steps l. -/
def Ln (w : World) (g o : Nat) (l : List Sp4) : Prop := ∀ (j : Nat) (s : Sp4), l[j]? = some s → ∀ t u, s.cs[t]? = some u → w.cell? ⟨g, o + j * 4 + t, none⟩ = some u
/-- A slice of steps at that address. -/
def La (w : World) (a : Option Addr) (l : List Sp4) : Prop := l = [] ∨ ∃ g o, a = some ⟨g, o, none⟩ ∧ g < w.heap.size ∧ Ln w g o l
/-- Its numbers are of their kinds. -/
def Sk (s : Sp4) : Prop := w64 s.what ∧ w64 s.a ∧ w64 s.b ∧ w64 s.c
section
variable {H : Type} {enc : TypeId × Value → H} {w : World} {base : Nat} {spare : Nat → Bool} {held : Bool}

instance : Inhabited Sp4 := ⟨⟨0, 0, 0, 0⟩⟩
theorem w64_of {x : Int} (h : (Lit.int .i64 x).wf = true) : w64 x := by have := bounds_i64 h; unfold w64; omega
set_option maxRecDepth 20000 in
theorem step_read {fuel : Nat} {cs : List Value} {x : DataW H × List MemPlace} (h : DataW.trod enc Tryz.prog w base spare held fuel 32 cs = some x) : ∃ s : Sp4, cs = s.cs ∧ Sk s := by
  obtain ⟨xs, k, -, -, hl, hxl, hf⟩ := DataW.trod_struct Tryz.underlying32 h
  have e3 : Tryz.prog.cellsOf 3 = 1 := by kernel_rfl
  have e5 : Tryz.prog.cellsOf 32 = 4 := by kernel_rfl
  rw [e5] at hl
  have hxl5 : xs.length = 4 := hxl
  clear hxl
  match xs, hxl5, cs, hl with
  | [y0, y1, y2, y3], _, [v0, v1, v2, v3], _ =>
    have g0 := hf 0 _ rfl
    have g1 := hf 1 _ rfl
    have g2 := hf 2 _ rfl
    have g3 := hf 3 _ rfl
    simp [e3] at g0 g1 g2 g3
    obtain ⟨a0, h0, -, w0⟩ := DataW.trod_int Tryz.underlying3 g0
    obtain ⟨a1, h1, -, w1⟩ := DataW.trod_int Tryz.underlying3 g1
    obtain ⟨a2, h2, -, w2⟩ := DataW.trod_int Tryz.underlying3 g2
    obtain ⟨a3, h3, -, w3⟩ := DataW.trod_int Tryz.underlying3 g3
    cases h0; cases h1; cases h2; cases h3
    exact ⟨⟨a0, a1, a2, a3⟩, rfl, w64_of w0, w64_of w1, w64_of w2, w64_of w3⟩

theorem slice_read {fuel : Nat} {s0 : Option Addr} {len cap : Nat} {x : DataW H × List MemPlace} (h : DataW.trod enc Tryz.prog w base (fun _ => true) held fuel 22 [.slice s0 len cap] = some x) :
    ∃ l : List Sp4, l.length = len ∧ La w s0 l ∧ (∀ s ∈ l, Sk s) ∧ len ≤ maxLen := by
  have e5 : Tryz.prog.cellsOf 32 = 4 := by kernel_rfl
  rcases open_slice Tryz.underlying22 h with ⟨h0, -⟩ | ⟨a, len', cap', m, nn, D, Pl, hcs, hb, hl, hm, hmm, -, hx⟩
  · simp at h0
    obtain ⟨rfl, rfl, rfl⟩ := h0
    exact ⟨[], rfl, Or.inl rfl, (fun n hn => nomatch hn), by decide⟩
  · simp at hcs
    obtain ⟨rfl, rfl, rfl⟩ := hcs
    simp only [if_true] at hmm
    subst hmm
    have each : ∀ i, i < len → ∃ n : Sp4, (∀ t u, n.cs[t]? = some u → w.cell? (a.add (i * 4 + t)) = some u) ∧ Sk n := by
      intro i hi
      obtain ⟨cs', h1, h2⟩ := hx i (by omega)
      obtain ⟨n, rfl, hn⟩ := step_read h2
      rw [e5] at h1
      obtain ⟨_, hlen, hcell⟩ := World.cells?_some h1
      refine ⟨n, fun t u hu => ?_, hn⟩
      have ht : t < 4 := (List.getElem?_eq_some_iff.1 hu).1
      have := hcell t ht
      rw [add_add] at this
      rw [this]; exact hu
    obtain ⟨N, hN⟩ := choose_lt each
    refine ⟨(List.range len).map N, by simp, ?_, ?_, by omega⟩
    · by_cases h0 : len = 0
      · left; rw [h0]; rfl
      · right
        obtain ⟨g, o, sp⟩ := a
        have hsp : sp = none := by
          have := (hN 0 (by omega)).1 0 _ rfl
          cases sp with
          | none => rfl
          | some x => simp [World.cell?, Addr.add] at this; split at this <;> simp at this
        subst hsp
        have ead : ∀ j, (⟨g, o, none⟩ : Addr).add j = ⟨g, o + j, none⟩ := fun j => by by_cases hj0 : j = 0 <;> simp [Addr.add, hj0]
        have hc : Ln w g o ((List.range len).map N) := by
          intro j n hj t u hu
          have hjl : j < len := by have := (List.getElem?_eq_some_iff.1 hj).1; simpa using this
          simp [hjl] at hj
          subst hj
          have := (hN j hjl).1 t u hu
          rw [ead] at this
          rw [Nat.add_assoc]; exact this
        refine ⟨g, o, rfl, ?_, hc⟩
        have := hc 0 (N 0) (by rw [List.getElem?_map, List.getElem?_range (by omega)]; rfl) 0 _ rfl
        exact World.block_lt_of_cell? _ _ this
    · intro n hn
      obtain ⟨i, hi, rfl⟩ := List.mem_map.1 hn
      exact (hN i (List.mem_range.1 hi)).2

end
theorem La.below {w wx : World} {a : Option Addr} {l : List Sp4} (h : La w a l) (hb : Below w.heap.size w wx) : La wx a l := by
  rcases h with h | ⟨g, o, ha, hg, h⟩
  · exact Or.inl h
  · exact Or.inr ⟨g, o, ha, Nat.lt_of_lt_of_le hg hb.size, fun j s hs t u hu => keep_cell hb (h j s hs t u hu)⟩
end Go.Proofs.YtohfjpahdoodgaaGreatDoor
