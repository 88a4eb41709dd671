import Derived.Deep.RegionHeld3
import Derived.Test.YtcahhahbcijkiaaGreatMg1
import Derived.Maps.Keyed
import Derived.Maps.OwnOps
import Derived.Maps.AppendAt
import Derived.DeepKeys3
namespace Go.Proofs.YtcahhahbcijkiaaGreat
set_option maxHeartbeats 12800000
set_option maxRecDepth 100000
open Go.RowKit
set_option linter.unusedSimpArgs false
set_option linter.unusedVariables false
theorem answered_44 {w : World} {g o c n : Nat} {p q s0 : Int} (hc0 : w.cell? ⟨g, o, none⟩ = some (.int .i64 s0)) (hn : 1 ≤ n) (a : 0 ≤ p) (b : 0 ≤ s0) (d : s0 ≤ 128) :
  Calls Tryz.prog 72 #[.int .i64 44, .int .i64 p, .int .i64 q, .slice (some ⟨g, o, none⟩) n c] w fun e w' => e = .returned (.int .i64 (s0 * min p 129)) ∧ w' = w := by
 have hI : (0 : Int) < (n : Int) := by omega
 obtain ⟨f, hf⟩ : ∃ f, f = min p 129 := ⟨_, rfl⟩
 have f0 : 0 ≤ f ∧ f ≤ 129 := by omega
 rw [← hf]
 have m0 : 0 ≤ s0 * f := Int.mul_nonneg b f0.1
 have m1 : s0 * f ≤ 128 * 129 := Int.mul_le_mul d f0.2 f0.1 (by decide)
 have e1 : IntKind.i64.wrap (s0 * f) = s0 * f := by rw [IntKind.wrap_i64]; omega
 by_cases h : p ≤ 129
 ·obtain rfl : f = p := by omega
  clear hf m0 m1
  go_enter Tryz.func72, Tryz.ntmps72
  go_wp2
  all_goals
   go_ret
   exact ⟨rfl, rfl⟩
 ·obtain rfl : f = 129 := by omega
  clear hf m0 m1
  go_enter Tryz.func72, Tryz.ntmps72
  go_wp2
  all_goals
   go_ret
   exact ⟨rfl, rfl⟩
theorem answered_9 {w : World} {g o c n : Nat} {p q s1 : Int} (hc1 : w.cell? ⟨g, o + 1, none⟩ = some (.int .i64 s1)) (hn : 2 ≤ n) :
  Calls Tryz.prog 72 #[.int .i64 9, .int .i64 p, .int .i64 q, .slice (some ⟨g, o, none⟩) n c] w fun e w' => e = .returned (.int .i64 s1) ∧ w' = w := by
 have hI : (1 : Int) < (n : Int) := by omega
 have hJ : 1 < n := by omega
 go_enter Tryz.func72, Tryz.ntmps72
 go_wp2
 all_goals
  go_ret
  exact ⟨rfl, rfl⟩
theorem answered_else {op : Int} {w : World} {g o c n : Nat} {p q s0 : Int} (hop : op < 8 ∨ (9 < op ∧ op < 29) ∨ op = 42 ∨ op = 43) (hc0 : w.cell? ⟨g, o, none⟩ = some (.int .i64 s0)) (hn : 1 ≤ n) :
  Calls Tryz.prog 72 #[.int .i64 op, .int .i64 p, .int .i64 q, .slice (some ⟨g, o, none⟩) n c] w fun e w' => e = .returned (.int .i64 s0) ∧ w' = w := by
 have hI : (0 : Int) < (n : Int) := by omega
 have q8 : (op == 8) = false := by simp; omega
 have q9 : (op == 9) = false := by simp; omega
 have q29 : (op == 29) = false := by simp; omega
 have q30 : (op == 30) = false := by simp; omega
 have q31 : (op == 31) = false := by simp; omega
 have q32 : (op == 32) = false := by simp; omega
 have q33 : (op == 33) = false := by simp; omega
 have q34 : (op == 34) = false := by simp; omega
 have q35 : (op == 35) = false := by simp; omega
 have q36 : (op == 36) = false := by simp; omega
 have q37 : (op == 37) = false := by simp; omega
 have q38 : (op == 38) = false := by simp; omega
 have q39 : (op == 39) = false := by simp; omega
 have q40 : (op == 40) = false := by simp; omega
 have q41 : (op == 41) = false := by simp; omega
 have q44 : (op == 44) = false := by simp; omega
 clear hop
 go_enter Tryz.func72, Tryz.ntmps72
 go_wp2
 all_goals
  go_ret
  exact ⟨rfl, rfl⟩
theorem answered_38 {w : World} {g o c n : Nat} {p q s0 s1 : Int} (hc0 : w.cell? ⟨g, o, none⟩ = some (.int .i64 s0)) (hc1 : w.cell? ⟨g, o + 1, none⟩ = some (.int .i64 s1)) (hn : 2 ≤ n) (a0 : 0 ≤ s0) (a1 : s0 ≤ 128) (b0 : 0 ≤ s1) (b1 : s1 ≤ 128) :
  Rt 72 #[.int .i64 38, .int .i64 p, .int .i64 q, .slice (some ⟨g, o, none⟩) n c] w (.int .i64 (s0 + s1)) := by
 have hI : (1 : Int) < (n : Int) := by omega
 have hI0 : (0 : Int) < (n : Int) := by omega
 have hJ : 1 < n := by omega
 have hJ0 : 0 < n := by omega
 have e1 : IntKind.i64.wrap (s0 + s1) = s0 + s1 := by rw [IntKind.wrap_i64]; omega
 by_cases h : p ≤ 129
 all_goals
  go_enter Tryz.func72, Tryz.ntmps72
  go_wp2_with fail
 all_goals
  go_region_held3 (fun x => x.cell? ⟨g, o, none⟩ = some (.int .i64 s0) ∧ x.cell? ⟨g, o + 1, none⟩ = some (.int .i64 s1))
   ((refine ⟨?_, ?_⟩ <;> simp [go_sem, hc0, hc1]))
   (fail)
  go_wp2_with fail
  go_ret
  exact ⟨rfl, (Below.refl _ _).drew⟩
theorem sort_noop {op p q : Int} {a : Option Addr} {n c : Nat} (hn : n ≤ 1000) (h : ari op < 1) (w : World) :
  Rt 57 #[.int .i64 op, .int .i64 p, .int .i64 q, .slice a n c] w (.tuple #[.int .i64 0, .int .i64 32]) := by
 obtain ⟨r, hr⟩ : ∃ r, r = ari op := ⟨_, rfl⟩
 have HA : Hid (∀ wx, Calls Tryz.prog 60 #[.int .i64 op] wx fun e w' => e = .returned (.int .i64 r) ∧ w' = wx) := fun wx => by rw [hr]; exact arity_any op wx
 rw [← hr] at h
 clear hr
 go_enter Tryz.func57, Tryz.ntmps57
 go_wp2_with fail
 refine (HA.out _).mono ?_
 rintro e wz ⟨rfl, rfl⟩
 go_wp2_with fail
 refine bodyPost_ret (v := .tuple #[.int .i64 (0), .int .i64 32]) (by simp [results, Tryz.results57, go_sem]) rfl ?_
 exact ⟨rfl, Below.refl _ _⟩
theorem sort_count {op p q : Int} {a : Option Addr} {n c : Nat} (hn : n ≤ 1000) (h : 1 ≤ ari op) (hne : ¬ (n : Int) = ari op) (w : World) :
  Rt 57 #[.int .i64 op, .int .i64 p, .int .i64 q, .slice a n c] w (.tuple #[.int .i64 0, .int .i64 30]) := by
 obtain ⟨r, hr⟩ : ∃ r, r = ari op := ⟨_, rfl⟩
 have HA : Hid (∀ wx, Calls Tryz.prog 60 #[.int .i64 op] wx fun e w' => e = .returned (.int .i64 r) ∧ w' = wx) := fun wx => by rw [hr]; exact arity_any op wx
 rw [← hr] at h hne
 have z1 : ((n : Int) == r) = false := by simp [hne]
 have z2 : ((n : Int) != r) = true := by simp [hne]
 have z3 : ¬ r < 1 := by omega
 clear hr
 go_enter Tryz.func57, Tryz.ntmps57
 go_wp2_with fail
 refine (HA.out _).mono ?_
 rintro e wz ⟨rfl, rfl⟩
 go_wp2_with fail
 refine bodyPost_ret (v := .tuple #[.int .i64 (0), .int .i64 30]) (by simp [results, Tryz.results57, go_sem]) rfl ?_
 exact ⟨rfl, Below.refl _ _⟩
theorem sort_parts {op p q s s0 : Int} {g o n c : Nat} {b1 b2 b3 : Bool} (hn : n ≤ 1000) (h1 : 1 ≤ n) (h : (n : Int) = ari op) (w : World) (hc0 : w.cell? ⟨g, o, none⟩ = some (.int .i64 s0))
  (H1 : Hid (Calls Tryz.prog 69 #[.slice (some ⟨g, o, none⟩) n c] w fun e w' => e = .returned (.bool b1) ∧ w' = w))
  (H2 : Hid (b1 = true → Calls Tryz.prog 70 #[.int .i64 op, .slice (some ⟨g, o, none⟩) n c] w fun e w' => e = .returned (.bool b2) ∧ w' = w))
  (H3 : Hid (Calls Tryz.prog 71 #[.int .i64 op, .int .i64 p, .int .i64 q, .int .i64 s0] w fun e w' => e = .returned (.bool b3) ∧ w' = w))
  (H4 : Hid (b1 = true → b2 = true → b3 = true → Rt 72 #[.int .i64 op, .int .i64 p, .int .i64 q, .slice (some ⟨g, o, none⟩) n c] w (.int .i64 s))) :
  Calls Tryz.prog 57 #[.int .i64 op, .int .i64 p, .int .i64 q, .slice (some ⟨g, o, none⟩) n c] w fun e w' => (e = .returned (.tuple #[.int .i64 (if b1 && b2 && b3 && decide (s ≤ 128) then s else 0), .int .i64 (if b1 && b2 && b3 then (if s ≤ 128 then 0 else 31) else 30)])) ∧ Below w.heap.size w w' := by
 have HA : Hid (∀ wx, Calls Tryz.prog 60 #[.int .i64 op] wx fun e w' => e = .returned (.int .i64 (n : Int)) ∧ w' = wx) := fun wx => by rw [h]; exact arity_any op wx
 have z3 : ¬ (n : Int) < 1 := by omega
 have z4 : (0 : Int) < (n : Int) := by omega
 obtain ⟨x, hx⟩ : ∃ x : Int, x = (if b1 && b2 && b3 && decide (s ≤ 128) then s else 0) := ⟨_, rfl⟩
 obtain ⟨y, hy⟩ : ∃ y : Int, y = (if b1 && b2 && b3 then (if s ≤ 128 then 0 else 31) else 30) := ⟨_, rfl⟩
 rw [← hx, ← hy]
 have HX : Hid _ := hx
 have HY : Hid _ := hy
 clear hx hy h
 cases b1
 ·clear H2 H4
  go_enter Tryz.func57, Tryz.ntmps57
  go_wp2_with fail
  refine (HA.out _).mono ?_
  rintro e wz ⟨rfl, rfl⟩
  go_wp2_with fail
  refine Calls.mono H1.out ?_
  rintro e wz ⟨rfl, rfl⟩
  go_wp2_with fail
  refine bodyPost_ret (v := .tuple #[.int .i64 (0), .int .i64 30]) (by simp [results, Tryz.results57, go_sem]) rfl ?_
  exact ⟨by rw [HX.out, HY.out]; rfl, Below.refl _ _⟩
 ·have K2 : Hid _ := H2.out rfl
  clear H2
  cases b2
  ·clear H4
   go_enter Tryz.func57, Tryz.ntmps57
   go_wp2_with fail
   refine (HA.out _).mono ?_
   rintro e wz ⟨rfl, rfl⟩
   go_wp2_with fail
   refine Calls.mono H1.out ?_
   rintro e wz ⟨rfl, rfl⟩
   go_wp2_with fail
   refine Calls.mono K2.out ?_
   rintro e wz ⟨rfl, rfl⟩
   go_wp2_with fail
   refine bodyPost_ret (v := .tuple #[.int .i64 (0), .int .i64 30]) (by simp [results, Tryz.results57, go_sem]) rfl ?_
   exact ⟨by rw [HX.out, HY.out]; rfl, Below.refl _ _⟩
  ·cases b3
   ·clear H4
    go_enter Tryz.func57, Tryz.ntmps57
    go_wp2_with fail
    refine (HA.out _).mono ?_
    rintro e wz ⟨rfl, rfl⟩
    go_wp2_with fail
    refine Calls.mono H1.out ?_
    rintro e wz ⟨rfl, rfl⟩
    go_wp2_with fail
    refine Calls.mono K2.out ?_
    rintro e wz ⟨rfl, rfl⟩
    go_wp2_with fail
    refine Calls.mono H3.out ?_
    rintro e wz ⟨rfl, rfl⟩
    go_wp2_with fail
    refine bodyPost_ret (v := .tuple #[.int .i64 (0), .int .i64 30]) (by simp [results, Tryz.results57, go_sem]) rfl ?_
    exact ⟨by rw [HX.out, HY.out]; rfl, Below.refl _ _⟩
   ·have K4 : Hid _ := H4.out rfl rfl rfl
    clear H4
    by_cases hs : s ≤ 128
    ·have hs2 : ¬ 128 < s := by omega
     go_enter Tryz.func57, Tryz.ntmps57
     go_wp2_with fail
     refine (HA.out _).mono ?_
     rintro e wz ⟨rfl, rfl⟩
     go_wp2_with fail
     refine Calls.mono H1.out ?_
     rintro e wz ⟨rfl, rfl⟩
     go_wp2_with fail
     refine Calls.mono K2.out ?_
     rintro e wz ⟨rfl, rfl⟩
     go_wp2_with fail
     refine Calls.mono H3.out ?_
     rintro e wz ⟨rfl, rfl⟩
     go_wp2_with fail
     refine Calls.mono K4.out ?_
     rintro e w4 ⟨rfl, hb4⟩
     go_wp2_with fail
     refine bodyPost_ret (v := .tuple #[.int .i64 (s), .int .i64 0]) (by simp [results, Tryz.results57, go_sem]) rfl ?_
     exact ⟨by rw [HX.out, HY.out, show decide (s ≤ 128) = true by simp [hs], if_pos hs]; rfl, hb4⟩
    ·have hs2 : 128 < s := by omega
     go_enter Tryz.func57, Tryz.ntmps57
     go_wp2_with fail
     refine (HA.out _).mono ?_
     rintro e wz ⟨rfl, rfl⟩
     go_wp2_with fail
     refine Calls.mono H1.out ?_
     rintro e wz ⟨rfl, rfl⟩
     go_wp2_with fail
     refine Calls.mono K2.out ?_
     rintro e wz ⟨rfl, rfl⟩
     go_wp2_with fail
     refine Calls.mono H3.out ?_
     rintro e wz ⟨rfl, rfl⟩
     go_wp2_with fail
     refine Calls.mono K4.out ?_
     rintro e w4 ⟨rfl, hb4⟩
     go_wp2_with fail
     refine bodyPost_ret (v := .tuple #[.int .i64 (0), .int .i64 31]) (by simp [results, Tryz.results57, go_sem]) rfl ?_
     exact ⟨by rw [HX.out, HY.out, show decide (s ≤ 128) = false by simp; omega, if_neg (show ¬ s ≤ 128 by omega)]; rfl, hb4⟩
def Mp (w : World) (k : TypeId) (b : Nat) (L : List (Value × Value)) : Prop :=
 ∃ es cl, w.heap[b]? = some (.map es cl) ∧ es.toList.map (fun e => (e.key, e.val)) = L ∧ ∀ p ∈ L, ∃ l, keyOf Tryz.prog k p.1 = some l
theorem Mp.keys {w : World} {k : TypeId} {b : Nat} {L : List (Value × Value)} (h : Mp w k b L) : ∀ p ∈ L, ∃ l, keyOf Tryz.prog k p.1 = some l := by
 obtain ⟨_, _, _, _, h⟩ := h
 exact h
theorem Mp.kept {w w' : World} {k : TypeId} {b : Nat} {L : List (Value × Value)} (h : Mp w k b L) (hb : w'.heap[b]? = w.heap[b]?) : Mp w' k b L := by
 obtain ⟨es, cl, h1, h2⟩ := h
 exact ⟨es, cl, hb.trans h1, h2⟩
theorem Mp.lt {w : World} {k : TypeId} {b : Nat} {L : List (Value × Value)} (h : Mp w k b L) : b < w.heap.size := by
 obtain ⟨es, cl, h1, h2⟩ := h
 exact (Array.getElem?_eq_some_iff.1 h1).1
theorem Mp.made (w : World) (k : TypeId) : Mp (w.alloc (.map #[] 0)) k w.heap.size [] := ⟨#[], 0, heap_alloc_new w _, rfl, fun p hp => nomatch hp⟩
theorem Mp.look {w : World} {k e t : TypeId} {b : Nat} {L : List (Value × Value)} (h : Mp w k b L) (K : WideMaps.KeyLaw Tryz.prog k) (ht : Tryz.prog.underlying t = some (.map k e)) {z : Value} (hz : (zeroValue e).run Tryz.prog w = .ok z w)
  {key : Value} {kl : Lit} (hkey : keyOf Tryz.prog k key = some kl) :
  ((Instr.lookup t (.map (some b)) key true).run Tryz.prog w = .ok (.tuple #[z, .bool false]) w ∧ ∀ p ∈ L, p.1 ≠ key) ∨
  ∃ p, p ∈ L ∧ p.1 = key ∧ (Instr.lookup t (.map (some b)) key true).run Tryz.prog w = .ok (.tuple #[p.2, .bool true]) w := by
 obtain ⟨es, cl, hb, rfl, hk⟩ := h
 have hes : ∀ x ∈ es.toList, ∃ l, keyOf Tryz.prog k x.key = some l := fun x hx => hk (x.key, x.val) (List.mem_map.2 ⟨x, hx, rfl⟩)
 rcases K.find w hkey es.toList hes with ⟨h1, h2⟩ | ⟨j, e0, h1, h2, h3⟩
 ·refine Or.inl ⟨by simp [Instr.lookup, run_underlying ht, MapKept.run_getObj_map hb, K.check w _ hkey, h1, hz, Result.andThen], fun p hp => ?_⟩
  obtain ⟨x, hx, rfl⟩ := List.mem_map.1 hp
  exact h2 x hx
 ·exact Or.inr ⟨(e0.key, e0.val), List.mem_map.2 ⟨e0, List.mem_of_getElem? h2, rfl⟩, h3, by simp [Instr.lookup, run_underlying ht, MapKept.run_getObj_map hb, K.check w _ hkey, h1, Result.andThen]⟩
theorem Mp.store {w : World} {k e t : TypeId} {b : Nat} {L : List (Value × Value)} (h : Mp w k b L) (K : WideMaps.KeyLaw Tryz.prog k) (ht : Tryz.prog.underlying t = some (.map k e))
  {key val : Value} {kl : Lit} (hkey : keyOf Tryz.prog k key = some kl) (hno : ∀ p ∈ L, p.1 ≠ key) :
  ∃ w', (Instr.mapUpdate t (.map (some b)) key val).run Tryz.prog w = .ok () w' ∧ Mp w' k b (L ++ [(key, val)]) ∧ w.grownBy w' (some b) ∧ w'.heap.size = w.heap.size := by
 obtain ⟨es, cl, hb, rfl, hk⟩ := h
 have hes : ∀ x ∈ es.toList, ∃ l, keyOf Tryz.prog k x.key = some l := fun x hx => hk (x.key, x.val) (List.mem_map.2 ⟨x, hx, rfl⟩)
 have hlt : b < w.heap.size := (Array.getElem?_eq_some_iff.1 hb).1
 rcases K.find w hkey es.toList hes with ⟨h1, h2⟩ | ⟨j, e0, h1, h2, h3⟩
 ·refine ⟨ChangeMaps.setBlock w b (.map (es.push ⟨key, val, cl⟩) (cl + 1)), by simp [Instr.mapUpdate, run_underlying ht, MapKept.run_getObj_map hb, K.check w false hkey, h1, MapKept.run_setObj_map _ hb, Result.andThen, ChangeMaps.setBlock], ⟨es.push ⟨key, val, cl⟩, cl + 1, by simp [ChangeMaps.setBlock, hlt], by simp, ?_⟩, ⟨rfl, rfl, rfl, by simp [ChangeMaps.setBlock], fun i _ hi => ?_⟩, by simp [ChangeMaps.setBlock]⟩
  ·intro p hp
   rcases List.mem_append.1 hp with hp | hp
   ·exact hk p hp
   ·obtain rfl := List.mem_singleton.1 hp
    exact ⟨_, hkey⟩
  ·have : b ≠ i := fun e => hi (by rw [e])
   simp [ChangeMaps.setBlock, this]
 ·exact absurd h3 (hno (e0.key, e0.val) (List.mem_map.2 ⟨e0, List.mem_of_getElem? h2, rfl⟩))
theorem operandsFit_9 {w : World} {g o c : Nat} {l : List Int} (h : Li w g o l) (h3 : l.length = 3) (hc3 : 3 ≤ c) :
  Calls Tryz.prog 70 #[.int .i64 9, .slice (some ⟨g, o, none⟩) 3 c] w fun e w' => e = .returned (.bool (opf 9 l)) ∧ w' = w := by
 obtain ⟨s0, hs0⟩ : ∃ s, s = l.getD 0 0 := ⟨_, rfl⟩
 have hc0 : w.cell? ⟨g, o, none⟩ = some (.int .i64 s0) := by rw [hs0]; exact h 0 (by omega)
 have hd2 : (l.drop 1).length = 2 := by rw [List.length_drop, h3]
 have HA := alike_any (c := c - 1) (Li.tail h) (by omega) (by omega)
 rw [hd2] at HA
 obtain ⟨r, hr⟩ : ∃ r, r = opf 9 l := ⟨_, rfl⟩
 rw [← hr]
 obtain ⟨b, hb⟩ : ∃ b, b = alk (l.drop 1) := ⟨_, rfl⟩
 rw [← hb] at HA
 have HAH : Hid _ := HA
 have e : r = (decide (s0 = 0) && b) := by rw [hr, hs0, hb]; rfl
 clear hr hs0 hb HA h
 by_cases z : s0 = 0
 ·have e2 : r = b := by rw [e]; simp [z]
  have HE : Hid (r = b) := e2
  subst z
  clear e e2
  go_enter Tryz.func70, Tryz.ntmps70
  go_wp2_with fail
  refine Calls.mono HAH.out ?_
  rintro e wz ⟨rfl, rfl⟩
  go_wp2_with fail
  go_ret
  exact ⟨by rw [HE.out]; rfl, rfl⟩
 ·have e2 : r = false := by rw [e]; simp [z]
  have HE : Hid (r = false) := e2
  have z2 : (s0 == 0) = false := by simp [z]
  clear e e2
  go_enter Tryz.func70, Tryz.ntmps70
  go_wp2_with fail
  go_ret
  exact ⟨by rw [HE.out]; rfl, rfl⟩
theorem operandsFit_38 {w : World} {g o c : Nat} {l : List Int} (h : Li w g o l) (h3 : l.length = 2) :
  Calls Tryz.prog 70 #[.int .i64 38, .slice (some ⟨g, o, none⟩) 2 c] w fun e w' => e = .returned (.bool (opf 38 l)) ∧ w' = w := by
 obtain ⟨s0, hs0⟩ : ∃ s, s = l.getD 0 0 := ⟨_, rfl⟩
 obtain ⟨s1, hs1⟩ : ∃ s, s = l.getD 1 0 := ⟨_, rfl⟩
 have hc0 : w.cell? ⟨g, o, none⟩ = some (.int .i64 s0) := by rw [hs0]; exact h 0 (by omega)
 have hc1 : w.cell? ⟨g, o + 1, none⟩ = some (.int .i64 s1) := by rw [hs1]; exact h 1 (by omega)
 obtain ⟨r, hr⟩ : ∃ r, r = opf 38 l := ⟨_, rfl⟩
 rw [← hr]
 have e : r = (!decide (s0 = 0) && !decide (s1 = 0)) := by rw [hr, hs0, hs1]; rfl
 clear hr hs0 hs1 h
 by_cases z : s0 = 0
 ·have HE : Hid (r = false) := by unfold Hid; rw [e]; simp [z]
  subst z
  clear e
  go_enter Tryz.func70, Tryz.ntmps70
  go_wp2
  go_ret
  exact ⟨by rw [HE.out]; rfl, rfl⟩
 ·have z2 : (s0 == 0) = false := by simp [z]
  have z3 : (s0 != 0) = true := by simp [z]
  by_cases y : s1 = 0
  ·have HE : Hid (r = false) := by unfold Hid; rw [e]; simp [y]
   subst y
   clear e
   go_enter Tryz.func70, Tryz.ntmps70
   go_wp2
   go_ret
   exact ⟨by rw [HE.out]; rfl, rfl⟩
  ·have HE : Hid (r = true) := by unfold Hid; rw [e]; simp [z, y]
   have y2 : (s1 == 0) = false := by simp [y]
   have y3 : (s1 != 0) = true := by simp [y]
   clear e
   go_enter Tryz.func70, Tryz.ntmps70
   go_wp2
   go_ret
   exact ⟨by rw [HE.out]; rfl, rfl⟩
def nft (op p q w : Int) : Bool := if op = 39 then decide (p < w) && decide (q ≤ p) && decide (0 ≤ q) else if op = 40 ∨ op = 41 ∨ op = 42 ∨ op = 43 then decide (0 ≤ p) && decide (q = 0) else if op = 44 then decide (1 ≤ p) && decide (q = 0) else decide (p = 0) && decide (q = 0)
theorem numbersFit_any (op p q v : Int) (w : World) :
  Calls Tryz.prog 71 #[.int .i64 op, .int .i64 p, .int .i64 q, .int .i64 v] w fun e w' => e = .returned (.bool (nft op p q v)) ∧ w' = w := by
 by_cases h : op = 39 ∨ op = 40 ∨ op = 41 ∨ op = 42 ∨ op = 43 ∨ op = 44
 ·rcases h with rfl | rfl | rfl | rfl | rfl | rfl
  ·by_cases a : p < v
   ·by_cases b : q ≤ p
    ·by_cases d : 0 ≤ q
     ·have e : nft 39 p q v = true := by simp [nft, a, b, d]
      rw [e]
      clear e
      go_enter Tryz.func71, Tryz.ntmps71
      go_wp2
      go_ret
      exact ⟨rfl, rfl⟩
     ·have e : nft 39 p q v = false := by simp [nft, d] <;> (try intros) <;> omega
      rw [e]
      clear e
      go_enter Tryz.func71, Tryz.ntmps71
      go_wp2
      go_ret
      exact ⟨rfl, rfl⟩
    ·have e : nft 39 p q v = false := by simp [nft, b] <;> (try intros) <;> omega
     rw [e]
     clear e
     go_enter Tryz.func71, Tryz.ntmps71
     go_wp2
     go_ret
     exact ⟨rfl, rfl⟩
   ·have e : nft 39 p q v = false := by simp [nft, a] <;> (try intros) <;> omega
    rw [e]
    clear e
    go_enter Tryz.func71, Tryz.ntmps71
    go_wp2
    go_ret
    exact ⟨rfl, rfl⟩
  ·by_cases a : 0 ≤ p
   ·by_cases b : q = 0
    ·have b2 : (q == 0) = true := by simp [b]
     have e : nft 40 p q v = true := by simp [nft, a, b]
     rw [e]
     clear e
     go_enter Tryz.func71, Tryz.ntmps71
     go_wp2
     go_ret
     exact ⟨rfl, rfl⟩
    ·have b2 : (q == 0) = false := by simp [b]
     have e : nft 40 p q v = false := by simp [nft, b] <;> (try intros) <;> omega
     rw [e]
     clear e
     go_enter Tryz.func71, Tryz.ntmps71
     go_wp2
     go_ret
     exact ⟨rfl, rfl⟩
   ·have e : nft 40 p q v = false := by simp [nft, a] <;> (try intros) <;> omega
    rw [e]
    clear e
    go_enter Tryz.func71, Tryz.ntmps71
    go_wp2
    go_ret
    exact ⟨rfl, rfl⟩
  ·by_cases a : 0 ≤ p
   ·by_cases b : q = 0
    ·have b2 : (q == 0) = true := by simp [b]
     have e : nft 41 p q v = true := by simp [nft, a, b]
     rw [e]
     clear e
     go_enter Tryz.func71, Tryz.ntmps71
     go_wp2
     go_ret
     exact ⟨rfl, rfl⟩
    ·have b2 : (q == 0) = false := by simp [b]
     have e : nft 41 p q v = false := by simp [nft, b] <;> (try intros) <;> omega
     rw [e]
     clear e
     go_enter Tryz.func71, Tryz.ntmps71
     go_wp2
     go_ret
     exact ⟨rfl, rfl⟩
   ·have e : nft 41 p q v = false := by simp [nft, a] <;> (try intros) <;> omega
    rw [e]
    clear e
    go_enter Tryz.func71, Tryz.ntmps71
    go_wp2
    go_ret
    exact ⟨rfl, rfl⟩
  ·by_cases a : 0 ≤ p
   ·by_cases b : q = 0
    ·have b2 : (q == 0) = true := by simp [b]
     have e : nft 42 p q v = true := by simp [nft, a, b]
     rw [e]
     clear e
     go_enter Tryz.func71, Tryz.ntmps71
     go_wp2
     go_ret
     exact ⟨rfl, rfl⟩
    ·have b2 : (q == 0) = false := by simp [b]
     have e : nft 42 p q v = false := by simp [nft, b] <;> (try intros) <;> omega
     rw [e]
     clear e
     go_enter Tryz.func71, Tryz.ntmps71
     go_wp2
     go_ret
     exact ⟨rfl, rfl⟩
   ·have e : nft 42 p q v = false := by simp [nft, a] <;> (try intros) <;> omega
    rw [e]
    clear e
    go_enter Tryz.func71, Tryz.ntmps71
    go_wp2
    go_ret
    exact ⟨rfl, rfl⟩
  ·by_cases a : 0 ≤ p
   ·by_cases b : q = 0
    ·have b2 : (q == 0) = true := by simp [b]
     have e : nft 43 p q v = true := by simp [nft, a, b]
     rw [e]
     clear e
     go_enter Tryz.func71, Tryz.ntmps71
     go_wp2
     go_ret
     exact ⟨rfl, rfl⟩
    ·have b2 : (q == 0) = false := by simp [b]
     have e : nft 43 p q v = false := by simp [nft, b] <;> (try intros) <;> omega
     rw [e]
     clear e
     go_enter Tryz.func71, Tryz.ntmps71
     go_wp2
     go_ret
     exact ⟨rfl, rfl⟩
   ·have e : nft 43 p q v = false := by simp [nft, a] <;> (try intros) <;> omega
    rw [e]
    clear e
    go_enter Tryz.func71, Tryz.ntmps71
    go_wp2
    go_ret
    exact ⟨rfl, rfl⟩
  ·by_cases a : 1 ≤ p
   ·by_cases b : q = 0
    ·have b2 : (q == 0) = true := by simp [b]
     have e : nft 44 p q v = true := by simp [nft, a, b]
     rw [e]
     clear e
     go_enter Tryz.func71, Tryz.ntmps71
     go_wp2
     go_ret
     exact ⟨rfl, rfl⟩
    ·have b2 : (q == 0) = false := by simp [b]
     have e : nft 44 p q v = false := by simp [nft, b] <;> (try intros) <;> omega
     rw [e]
     clear e
     go_enter Tryz.func71, Tryz.ntmps71
     go_wp2
     go_ret
     exact ⟨rfl, rfl⟩
   ·have e : nft 44 p q v = false := by simp [nft, a] <;> (try intros) <;> omega
    rw [e]
    clear e
    go_enter Tryz.func71, Tryz.ntmps71
    go_wp2
    go_ret
    exact ⟨rfl, rfl⟩
 ·have h39 : (op == 39) = false := by simp; omega
  have h40 : (op == 40) = false := by simp; omega
  have h41 : (op == 41) = false := by simp; omega
  have h42 : (op == 42) = false := by simp; omega
  have h43 : (op == 43) = false := by simp; omega
  have h44 : (op == 44) = false := by simp; omega
  have g39 : ¬ op = 39 := by omega
  have g4 : ¬ (op = 40 ∨ op = 41 ∨ op = 42 ∨ op = 43) := by omega
  have g44 : ¬ op = 44 := by omega
  clear h
  by_cases a : p = 0
  ·have a2 : (p == 0) = true := by simp [a]
   by_cases b : q = 0
   ·have b2 : (q == 0) = true := by simp [b]
    have e : nft op p q v = true := by unfold nft; rw [if_neg g39, if_neg g4, if_neg g44]; simp [a, b]
    rw [e]
    clear e g4 a b g39 g44
    go_enter Tryz.func71, Tryz.ntmps71
    go_wp2
    go_ret
    exact ⟨rfl, rfl⟩
   ·have b2 : (q == 0) = false := by simp [b]
    have e : nft op p q v = false := by unfold nft; rw [if_neg g39, if_neg g4, if_neg g44]; simp [b]
    rw [e]
    clear e g4 a b g39 g44
    go_enter Tryz.func71, Tryz.ntmps71
    go_wp2
    go_ret
    exact ⟨rfl, rfl⟩
  ·have a2 : (p == 0) = false := by simp [a]
   have e : nft op p q v = false := by unfold nft; rw [if_neg g39, if_neg g4, if_neg g44]; simp [a]
   rw [e]
   clear e g4 a g39 g44
   go_enter Tryz.func71, Tryz.ntmps71
   go_wp2
   go_ret
   exact ⟨rfl, rfl⟩
def ans (op p q : Int) (l : List Int) : Int :=
 if op = 8 ∨ (29 ≤ op ∧ op ≤ 36) then 0 else if op = 9 then l.getD 1 0 else if op = 37 then 1 else if op = 38 then l.getD 0 0 + l.getD 1 0 else if op = 39 then p - q + 1 else if op = 40 ∨ op = 41 then l.getD 0 0 + min p 129 else if op = 44 then l.getD 0 0 * min p 129 else l.getD 0 0
def fitB (op p q : Int) (l : List Int) : Bool := l.all srt && opf op l && nft op p q (l.getD 0 0)
def srtF (op p q : Int) (l : List Int) : Int × Int :=
 if ari op < 1 then (0, 32) else if (l.length : Int) = ari op ∧ fitB op p q l = true then (if ans op p q l ≤ 128 then (ans op p q l, 0) else (0, 31)) else (0, 30)
theorem low {f : Nat} {xs : Array Value} {w : World} {e : Ending} (h : Calls Tryz.prog f xs w fun e' w' => e' = e ∧ w' = w) : Calls Tryz.prog f xs w fun e' w' => e' = e ∧ Below w.heap.size w w' :=
 h.mono (by rintro _ _ ⟨rfl, rfl⟩; exact ⟨rfl, Below.refl _ _⟩)
theorem ari_range {op : Int} (h : 1 ≤ ari op) : 3 ≤ op ∧ op ≤ 44 := by
 unfold ari at h
 split at h
 ·omega
 ·split at h <;> omega
theorem srt_at {l : List Int} (h : l.all srt = true) {j : Nat} (hj : j < l.length) : 0 ≤ l.getD j 0 ∧ l.getD j 0 ≤ 128 := by
 rw [List.all_eq_true] at h
 have := h l[j] (List.getElem_mem hj)
 rw [List.getD_eq_getElem?_getD, List.getElem?_eq_getElem hj]
 simpa [srt] using this
theorem operandsFit_all {op : Int} {w : World} {g o c : Nat} {l : List Int} (h : Li w g o l) (hl : l.length ≤ 1000) (hc : l.length ≤ c) (hlen : (l.length : Int) = ari op) (h1 : 1 ≤ ari op) :
    Calls Tryz.prog 70 #[.int .i64 op, .slice (some ⟨g, o, none⟩) l.length c] w fun e w' => e = .returned (.bool (opf op l)) ∧ w' = w := by
  have hr := ari_range h1
  have hl1 : 1 ≤ l.length := by omega
  by_cases h0 : op < 3 ∨ (9 < op ∧ op < 38) ∨ 38 < op
  · exact operandsFit_else h0 h hl hl1
  · have hx : op = 3 ∨ op = 4 ∨ op = 5 ∨ op = 6 ∨ op = 7 ∨ op = 8 ∨ op = 9 ∨ op = 38 := by omega
    rcases hx with rfl | rfl | rfl | rfl | rfl | rfl | rfl | rfl
    · exact operandsFit_3 h hl hl1
    · exact operandsFit_4 h hl hl1
    · exact operandsFit_5 h hl hl1
    · exact operandsFit_6 h hl hl1
    · exact operandsFit_7 h hl hl1
    · exact operandsFit_8 h hl hl1
    · have e3 : l.length = 3 := by have : ari 9 = 3 := by decide
                                   omega
      rw [e3] at hc ⊢
      exact operandsFit_9 h e3 hc
    · have e3 : l.length = 2 := by have : ari 38 = 2 := by decide
                                   omega
      rw [e3]
      exact operandsFit_38 h e3
theorem answered_all {op p q : Int} {w : World} {g o c : Nat} {l : List Int} (h : Li w g o l) (hlen : (l.length : Int) = ari op) (h1 : 1 ≤ ari op) (hall : l.all srt = true) (hn : nft op p q (l.getD 0 0) = true) :
    Rt 72 #[.int .i64 op, .int .i64 p, .int .i64 q, .slice (some ⟨g, o, none⟩) l.length c] w (.int .i64 (ans op p q l)) := by
  have hr := ari_range h1
  have hl1 : 1 ≤ l.length := by omega
  have c0 := h 0 hl1
  have s0 := srt_at hall hl1
  by_cases h0 : op < 8 ∨ (9 < op ∧ op < 29) ∨ op = 42 ∨ op = 43
  · have e : ans op p q l = l.getD 0 0 := by
      unfold ans
      rw [if_neg (by omega), if_neg (by omega), if_neg (by omega), if_neg (by omega), if_neg (by omega), if_neg (by omega), if_neg (by omega)]
    rw [e]
    exact low (answered_else h0 c0 hl1)
  · have hx : op = 8 ∨ op = 9 ∨ op = 29 ∨ op = 30 ∨ op = 31 ∨ op = 32 ∨ op = 33 ∨ op = 34 ∨ op = 35 ∨ op = 36 ∨ op = 37 ∨ op = 38 ∨ op = 39 ∨ op = 40 ∨ op = 41 ∨ op = 44 := by omega
    rcases hx with rfl | rfl | rfl | rfl | rfl | rfl | rfl | rfl | rfl | rfl | rfl | rfl | rfl | rfl | rfl | rfl
    · exact low (answered_8 c0 hl1)
    · have e3 : l.length = 3 := by have : ari 9 = 3 := by decide
                                   omega
      exact low (answered_9 (h 1 (by omega)) (by omega))
    · exact low (answered_29 c0 hl1)
    · exact low (answered_30 c0 hl1)
    · exact low (answered_31 c0 hl1)
    · exact low (answered_32 c0 hl1)
    · exact low (answered_33 c0 hl1)
    · exact low (answered_34 c0 hl1)
    · exact low (answered_35 c0 hl1)
    · exact low (answered_36 c0 hl1)
    · exact low (answered_37 c0 hl1)
    · have e3 : l.length = 2 := by have : ari 38 = 2 := by decide
                                   omega
      have s1 := srt_at hall (show 1 < l.length by omega)
      exact answered_38 c0 (h 1 (by omega)) (by omega) s0.1 s0.2 s1.1 s1.2
    · have hn' : (p < l.getD 0 0 ∧ q ≤ p) ∧ 0 ≤ q := by simpa [nft] using hn
      exact low (answered_39 c0 hl1 hn'.2 hn'.1.2 (by omega))
    · have hn' : 0 ≤ p ∧ q = 0 := by simpa [nft] using hn
      exact low (answered_40 c0 hl1 hn'.1 s0.1 s0.2)
    · have hn' : 0 ≤ p ∧ q = 0 := by simpa [nft] using hn
      exact low (answered_41 c0 hl1 hn'.1 s0.1 s0.2)
    · have hn' : 1 ≤ p ∧ q = 0 := by simpa [nft] using hn
      exact low (answered_44 c0 hl1 (by omega) s0.1 s0.2)
theorem sort_any {op p q : Int} {w : World} {g o c : Nat} {l : List Int} (h : Li w g o l) (hl : l.length ≤ 1000) (hc : l.length ≤ c) :
  Rt 57 #[.int .i64 op, .int .i64 p, .int .i64 q, .slice (some ⟨g, o, none⟩) l.length c] w (.tuple #[.int .i64 (srtF op p q l).1, .int .i64 (srtF op p q l).2]) := by
 by_cases h0 : ari op < 1
 ·have e : srtF op p q l = (0, 32) := by unfold srtF; rw [if_pos h0]
  rw [e]
  exact sort_noop hl h0 w
 ·by_cases h1 : (l.length : Int) = ari op
  ·have hl1 : 1 ≤ l.length := by omega
   refine (sort_parts (s := ans op p q l) (s0 := l.getD 0 0) (b1 := l.all srt) (b2 := opf op l) (b3 := nft op p q (l.getD 0 0)) hl hl1 h1 w (h 0 hl1) (areSorts_any h hl) (fun _ => operandsFit_all h hl hc h1 (by omega)) (numbersFit_any _ _ _ _ w) (fun a _ b => answered_all h h1 (by omega) a b)).mono ?_
   rintro e w' ⟨rfl, hb⟩
   refine ⟨?_, hb⟩
   have e : fitB op p q l = (l.all srt && opf op l && nft op p q (l.getD 0 0)) := rfl
   unfold srtF
   rw [if_neg h0, ← e]
   cases hf : fitB op p q l
   ·simp
   ·by_cases ha : ans op p q l ≤ 128
    ·simp [ha, h1]
    ·simp [ha, h1]
  ·have e : srtF op p q l = (0, 30) := by unfold srtF; rw [if_neg h0, if_neg (fun x => h1 x.1)]
   rw [e]
   exact sort_count hl (by omega) h1 w
end Go.Proofs.YtcahhahbcijkiaaGreat
