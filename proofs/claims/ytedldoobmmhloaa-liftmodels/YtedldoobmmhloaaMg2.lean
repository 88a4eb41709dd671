import Derived.Deep.RegionHeld3
import Derived.Test.YtedldoobmmhloaaMg1
import Derived.Maps.Keyed
import Derived.Maps.OwnOps
import Derived.Maps.AppendAt
import Derived.DeepKeys3
namespace Go.Proofs.Ytedldoobmmhloaa
set_option maxHeartbeats 12800000
set_option maxRecDepth 100000
open Go.RowKit
set_option linter.unusedSimpArgs false
set_option linter.unusedVariables false
theorem answered_44 {w : World} {g o c n : Nat} {p q s0 : Int} (hc0 : w.cell? ⟨g, o, none⟩ = some (.int .i64 s0)) (hn : 1 ≤ n) (a : 0 ≤ p) (b : 0 ≤ s0) (d : s0 ≤ 128) :
  Calls Try.prog 49 #[.int .i64 44, .int .i64 p, .int .i64 q, .slice (some ⟨g, o, none⟩) n c] w fun e w' => e = .returned (.int .i64 (s0 * min p 129)) ∧ w' = w := by
 have hI : (0 : Int) < (n : Int) := by omega
 obtain ⟨f, hf⟩ : ∃ f, f = min p 129 := ⟨_, rfl⟩
 have f0 : 0 ≤ f ∧ f ≤ 129 := by omega
 rw [← hf]
 have m0 : 0 ≤ s0 * f := Int.mul_nonneg b f0.1
 have m1 : s0 * f ≤ 128 * 129 := Int.mul_le_mul d f0.2 f0.1 (by decide)
 have e1 : IntKind.i64.wrap (s0 * f) = s0 * f := by rw [IntKind.wrap_i64]; omega
 by_cases h : p ≤ 129
 ·obtain rfl : f = p := by omega
  clear hf m0 m1
  go_enter Try.func49, Try.ntmps49
  go_wp2
  all_goals
   go_ret
   exact ⟨rfl, rfl⟩
 ·obtain rfl : f = 129 := by omega
  clear hf m0 m1
  go_enter Try.func49, Try.ntmps49
  go_wp2
  all_goals
   go_ret
   exact ⟨rfl, rfl⟩
theorem answered_9 {w : World} {g o c n : Nat} {p q s1 : Int} (hc1 : w.cell? ⟨g, o + 1, none⟩ = some (.int .i64 s1)) (hn : 2 ≤ n) :
  Calls Try.prog 49 #[.int .i64 9, .int .i64 p, .int .i64 q, .slice (some ⟨g, o, none⟩) n c] w fun e w' => e = .returned (.int .i64 s1) ∧ w' = w := by
 have hI : (1 : Int) < (n : Int) := by omega
 have hJ : 1 < n := by omega
 go_enter Try.func49, Try.ntmps49
 go_wp2
 all_goals
  go_ret
  exact ⟨rfl, rfl⟩
theorem answered_else {op : Int} {w : World} {g o c n : Nat} {p q s0 : Int} (hop : op < 8 ∨ (9 < op ∧ op < 29) ∨ op = 42 ∨ op = 43) (hc0 : w.cell? ⟨g, o, none⟩ = some (.int .i64 s0)) (hn : 1 ≤ n) :
  Calls Try.prog 49 #[.int .i64 op, .int .i64 p, .int .i64 q, .slice (some ⟨g, o, none⟩) n c] w fun e w' => e = .returned (.int .i64 s0) ∧ w' = w := by
 have hI : (0 : Int) < (n : Int) := by omega
 have q8 : (op == 8) = false := by simp; omega
 have q9 : (op == 9) = false := by simp; omega
 have q29 : (op == 29) = false := by simp; omega
 have q30 : (op == 30) = false := by simp; omega
 have q31 : (op == 31) = false := by simp; omega
 have q32 : (op == 32) = false := by simp; omega
 have q33 : (op == 33) = false := by simp; omega
 have q34 : (op == 34) = false := by simp; omega
 have q35 : (op == 35) = false := by simp; omega
 have q36 : (op == 36) = false := by simp; omega
 have q37 : (op == 37) = false := by simp; omega
 have q38 : (op == 38) = false := by simp; omega
 have q39 : (op == 39) = false := by simp; omega
 have q40 : (op == 40) = false := by simp; omega
 have q41 : (op == 41) = false := by simp; omega
 have q44 : (op == 44) = false := by simp; omega
 clear hop
 go_enter Try.func49, Try.ntmps49
 go_wp2
 all_goals
  go_ret
  exact ⟨rfl, rfl⟩
theorem answered_38 {w : World} {g o c n : Nat} {p q s0 s1 : Int} (hc0 : w.cell? ⟨g, o, none⟩ = some (.int .i64 s0)) (hc1 : w.cell? ⟨g, o + 1, none⟩ = some (.int .i64 s1)) (hn : 2 ≤ n) (a0 : 0 ≤ s0) (a1 : s0 ≤ 128) (b0 : 0 ≤ s1) (b1 : s1 ≤ 128) :
  Calls Try.prog 49 #[.int .i64 38, .int .i64 p, .int .i64 q, .slice (some ⟨g, o, none⟩) n c] w fun e w' => e = .returned (.int .i64 (s0 + s1)) ∧ Below w.heap.size w w' := by
 have hI : (1 : Int) < (n : Int) := by omega
 have hI0 : (0 : Int) < (n : Int) := by omega
 have hJ : 1 < n := by omega
 have hJ0 : 0 < n := by omega
 have e1 : IntKind.i64.wrap (s0 + s1) = s0 + s1 := by rw [IntKind.wrap_i64]; omega
 by_cases h : p ≤ 129
 all_goals
  go_enter Try.func49, Try.ntmps49
  go_wp2_with fail
 all_goals
  go_region_held3 (fun x => x.cell? ⟨g, o, none⟩ = some (.int .i64 s0) ∧ x.cell? ⟨g, o + 1, none⟩ = some (.int .i64 s1))
   ((refine ⟨?_, ?_⟩ <;> simp [go_sem, hc0, hc1]))
   (fail)
  go_wp2_with fail
  go_ret
  exact ⟨rfl, (Below.refl _ _).drew⟩
theorem sort_noop {op p q : Int} {a : Option Addr} {n c : Nat} (hn : n ≤ 1000) (h : ari op < 1) (w : World) :
  Calls Try.prog 38 #[.int .i64 op, .int .i64 p, .int .i64 q, .slice a n c] w fun e w' => e = .returned (.tuple #[.int .i64 0, .int .i64 32]) ∧ Below w.heap.size w w' := by
 obtain ⟨r, hr⟩ : ∃ r, r = ari op := ⟨_, rfl⟩
 have HA : Hid (∀ wx, Calls Try.prog 44 #[.int .i64 op] wx fun e w' => e = .returned (.int .i64 r) ∧ w' = wx) := fun wx => by rw [hr]; exact arity_any op wx
 rw [← hr] at h
 clear hr
 go_enter Try.func38, Try.ntmps38
 go_wp2_with fail
 refine (HA.out _).mono ?_
 rintro e wz ⟨rfl, rfl⟩
 go_wp2_with fail
 refine bodyPost_ret (v := .tuple #[.int .i64 (0), .int .i64 32]) (by simp [results, Try.results38, go_sem]) rfl ?_
 exact ⟨rfl, Below.refl _ _⟩
theorem sort_count {op p q : Int} {a : Option Addr} {n c : Nat} (hn : n ≤ 1000) (h : 1 ≤ ari op) (hne : ¬ (n : Int) = ari op) (w : World) :
  Calls Try.prog 38 #[.int .i64 op, .int .i64 p, .int .i64 q, .slice a n c] w fun e w' => e = .returned (.tuple #[.int .i64 0, .int .i64 30]) ∧ Below w.heap.size w w' := by
 obtain ⟨r, hr⟩ : ∃ r, r = ari op := ⟨_, rfl⟩
 have HA : Hid (∀ wx, Calls Try.prog 44 #[.int .i64 op] wx fun e w' => e = .returned (.int .i64 r) ∧ w' = wx) := fun wx => by rw [hr]; exact arity_any op wx
 rw [← hr] at h hne
 have z1 : ((n : Int) == r) = false := by simp [hne]
 have z2 : ((n : Int) != r) = true := by simp [hne]
 have z3 : ¬ r < 1 := by omega
 clear hr
 go_enter Try.func38, Try.ntmps38
 go_wp2_with fail
 refine (HA.out _).mono ?_
 rintro e wz ⟨rfl, rfl⟩
 go_wp2_with fail
 refine bodyPost_ret (v := .tuple #[.int .i64 (0), .int .i64 30]) (by simp [results, Try.results38, go_sem]) rfl ?_
 exact ⟨rfl, Below.refl _ _⟩
theorem sort_parts {op p q s s0 : Int} {g o n c : Nat} {b1 b2 b3 : Bool} (hn : n ≤ 1000) (h1 : 1 ≤ n) (h : (n : Int) = ari op) (w : World) (hc0 : w.cell? ⟨g, o, none⟩ = some (.int .i64 s0))
  (H1 : Hid (Calls Try.prog 46 #[.slice (some ⟨g, o, none⟩) n c] w fun e w' => e = .returned (.bool b1) ∧ w' = w))
  (H2 : Hid (b1 = true → Calls Try.prog 47 #[.int .i64 op, .slice (some ⟨g, o, none⟩) n c] w fun e w' => e = .returned (.bool b2) ∧ w' = w))
  (H3 : Hid (Calls Try.prog 48 #[.int .i64 op, .int .i64 p, .int .i64 q, .int .i64 s0] w fun e w' => e = .returned (.bool b3) ∧ w' = w))
  (H4 : Hid (b1 = true → b2 = true → b3 = true → Calls Try.prog 49 #[.int .i64 op, .int .i64 p, .int .i64 q, .slice (some ⟨g, o, none⟩) n c] w fun e w' => e = .returned (.int .i64 s) ∧ Below w.heap.size w w')) :
  Calls Try.prog 38 #[.int .i64 op, .int .i64 p, .int .i64 q, .slice (some ⟨g, o, none⟩) n c] w fun e w' => (e = .returned (.tuple #[.int .i64 (if b1 && b2 && b3 && decide (s ≤ 128) then s else 0), .int .i64 (if b1 && b2 && b3 then (if s ≤ 128 then 0 else 31) else 30)])) ∧ Below w.heap.size w w' := by
 have HA : Hid (∀ wx, Calls Try.prog 44 #[.int .i64 op] wx fun e w' => e = .returned (.int .i64 (n : Int)) ∧ w' = wx) := fun wx => by rw [h]; exact arity_any op wx
 have z3 : ¬ (n : Int) < 1 := by omega
 have z4 : (0 : Int) < (n : Int) := by omega
 obtain ⟨x, hx⟩ : ∃ x : Int, x = (if b1 && b2 && b3 && decide (s ≤ 128) then s else 0) := ⟨_, rfl⟩
 obtain ⟨y, hy⟩ : ∃ y : Int, y = (if b1 && b2 && b3 then (if s ≤ 128 then 0 else 31) else 30) := ⟨_, rfl⟩
 rw [← hx, ← hy]
 have HX : Hid _ := hx
 have HY : Hid _ := hy
 clear hx hy h
 cases b1
 ·clear H2 H4
  go_enter Try.func38, Try.ntmps38
  go_wp2_with fail
  refine (HA.out _).mono ?_
  rintro e wz ⟨rfl, rfl⟩
  go_wp2_with fail
  refine Calls.mono H1.out ?_
  rintro e wz ⟨rfl, rfl⟩
  go_wp2_with fail
  refine bodyPost_ret (v := .tuple #[.int .i64 (0), .int .i64 30]) (by simp [results, Try.results38, go_sem]) rfl ?_
  exact ⟨by rw [HX.out, HY.out]; rfl, Below.refl _ _⟩
 ·have K2 : Hid _ := H2.out rfl
  clear H2
  cases b2
  ·clear H4
   go_enter Try.func38, Try.ntmps38
   go_wp2_with fail
   refine (HA.out _).mono ?_
   rintro e wz ⟨rfl, rfl⟩
   go_wp2_with fail
   refine Calls.mono H1.out ?_
   rintro e wz ⟨rfl, rfl⟩
   go_wp2_with fail
   refine Calls.mono K2.out ?_
   rintro e wz ⟨rfl, rfl⟩
   go_wp2_with fail
   refine bodyPost_ret (v := .tuple #[.int .i64 (0), .int .i64 30]) (by simp [results, Try.results38, go_sem]) rfl ?_
   exact ⟨by rw [HX.out, HY.out]; rfl, Below.refl _ _⟩
  ·cases b3
   ·clear H4
    go_enter Try.func38, Try.ntmps38
    go_wp2_with fail
    refine (HA.out _).mono ?_
    rintro e wz ⟨rfl, rfl⟩
    go_wp2_with fail
    refine Calls.mono H1.out ?_
    rintro e wz ⟨rfl, rfl⟩
    go_wp2_with fail
    refine Calls.mono K2.out ?_
    rintro e wz ⟨rfl, rfl⟩
    go_wp2_with fail
    refine Calls.mono H3.out ?_
    rintro e wz ⟨rfl, rfl⟩
    go_wp2_with fail
    refine bodyPost_ret (v := .tuple #[.int .i64 (0), .int .i64 30]) (by simp [results, Try.results38, go_sem]) rfl ?_
    exact ⟨by rw [HX.out, HY.out]; rfl, Below.refl _ _⟩
   ·have K4 : Hid _ := H4.out rfl rfl rfl
    clear H4
    by_cases hs : s ≤ 128
    ·have hs2 : ¬ 128 < s := by omega
     go_enter Try.func38, Try.ntmps38
     go_wp2_with fail
     refine (HA.out _).mono ?_
     rintro e wz ⟨rfl, rfl⟩
     go_wp2_with fail
     refine Calls.mono H1.out ?_
     rintro e wz ⟨rfl, rfl⟩
     go_wp2_with fail
     refine Calls.mono K2.out ?_
     rintro e wz ⟨rfl, rfl⟩
     go_wp2_with fail
     refine Calls.mono H3.out ?_
     rintro e wz ⟨rfl, rfl⟩
     go_wp2_with fail
     refine Calls.mono K4.out ?_
     rintro e w4 ⟨rfl, hb4⟩
     go_wp2_with fail
     refine bodyPost_ret (v := .tuple #[.int .i64 (s), .int .i64 0]) (by simp [results, Try.results38, go_sem]) rfl ?_
     exact ⟨by rw [HX.out, HY.out, show decide (s ≤ 128) = true by simp [hs], if_pos hs]; rfl, hb4⟩
    ·have hs2 : 128 < s := by omega
     go_enter Try.func38, Try.ntmps38
     go_wp2_with fail
     refine (HA.out _).mono ?_
     rintro e wz ⟨rfl, rfl⟩
     go_wp2_with fail
     refine Calls.mono H1.out ?_
     rintro e wz ⟨rfl, rfl⟩
     go_wp2_with fail
     refine Calls.mono K2.out ?_
     rintro e wz ⟨rfl, rfl⟩
     go_wp2_with fail
     refine Calls.mono H3.out ?_
     rintro e wz ⟨rfl, rfl⟩
     go_wp2_with fail
     refine Calls.mono K4.out ?_
     rintro e w4 ⟨rfl, hb4⟩
     go_wp2_with fail
     refine bodyPost_ret (v := .tuple #[.int .i64 (0), .int .i64 31]) (by simp [results, Try.results38, go_sem]) rfl ?_
     exact ⟨by rw [HX.out, HY.out, show decide (s ≤ 128) = false by simp; omega, if_neg (show ¬ s ≤ 128 by omega)]; rfl, hb4⟩
def Mp (w : World) (k : TypeId) (b : Nat) (L : List (Value × Value)) : Prop :=
 ∃ es cl, w.heap[b]? = some (.map es cl) ∧ es.toList.map (fun e => (e.key, e.val)) = L ∧ ∀ p ∈ L, ∃ l, keyOf Try.prog k p.1 = some l
theorem Mp.keys {w : World} {k : TypeId} {b : Nat} {L : List (Value × Value)} (h : Mp w k b L) : ∀ p ∈ L, ∃ l, keyOf Try.prog k p.1 = some l := by
 obtain ⟨_, _, _, _, h⟩ := h
 exact h
theorem Mp.kept {w w' : World} {k : TypeId} {b : Nat} {L : List (Value × Value)} (h : Mp w k b L) (hb : w'.heap[b]? = w.heap[b]?) : Mp w' k b L := by
 obtain ⟨es, cl, h1, h2⟩ := h
 exact ⟨es, cl, hb.trans h1, h2⟩
theorem Mp.lt {w : World} {k : TypeId} {b : Nat} {L : List (Value × Value)} (h : Mp w k b L) : b < w.heap.size := by
 obtain ⟨es, cl, h1, h2⟩ := h
 exact (Array.getElem?_eq_some_iff.1 h1).1
theorem Mp.made (w : World) (k : TypeId) : Mp (w.alloc (.map #[] 0)) k w.heap.size [] := ⟨#[], 0, heap_alloc_new w _, rfl, fun p hp => nomatch hp⟩
theorem Mp.look {w : World} {k e t : TypeId} {b : Nat} {L : List (Value × Value)} (h : Mp w k b L) (K : WideMaps.KeyLaw Try.prog k) (ht : Try.prog.underlying t = some (.map k e)) {z : Value} (hz : (zeroValue e).run Try.prog w = .ok z w)
  {key : Value} {kl : Lit} (hkey : keyOf Try.prog k key = some kl) :
  ((Instr.lookup t (.map (some b)) key true).run Try.prog w = .ok (.tuple #[z, .bool false]) w ∧ ∀ p ∈ L, p.1 ≠ key) ∨
  ∃ p, p ∈ L ∧ p.1 = key ∧ (Instr.lookup t (.map (some b)) key true).run Try.prog w = .ok (.tuple #[p.2, .bool true]) w := by
 obtain ⟨es, cl, hb, rfl, hk⟩ := h
 have hes : ∀ x ∈ es.toList, ∃ l, keyOf Try.prog k x.key = some l := fun x hx => hk (x.key, x.val) (List.mem_map.2 ⟨x, hx, rfl⟩)
 rcases K.find w hkey es.toList hes with ⟨h1, h2⟩ | ⟨j, e0, h1, h2, h3⟩
 ·refine Or.inl ⟨by simp [Instr.lookup, run_underlying ht, MapKept.run_getObj_map hb, K.check w _ hkey, h1, hz, Result.andThen], fun p hp => ?_⟩
  obtain ⟨x, hx, rfl⟩ := List.mem_map.1 hp
  exact h2 x hx
 ·exact Or.inr ⟨(e0.key, e0.val), List.mem_map.2 ⟨e0, List.mem_of_getElem? h2, rfl⟩, h3, by simp [Instr.lookup, run_underlying ht, MapKept.run_getObj_map hb, K.check w _ hkey, h1, Result.andThen]⟩
theorem Mp.store {w : World} {k e t : TypeId} {b : Nat} {L : List (Value × Value)} (h : Mp w k b L) (K : WideMaps.KeyLaw Try.prog k) (ht : Try.prog.underlying t = some (.map k e))
  {key val : Value} {kl : Lit} (hkey : keyOf Try.prog k key = some kl) (hno : ∀ p ∈ L, p.1 ≠ key) :
  ∃ w', (Instr.mapUpdate t (.map (some b)) key val).run Try.prog w = .ok () w' ∧ Mp w' k b (L ++ [(key, val)]) ∧ w.grownBy w' (some b) ∧ w'.heap.size = w.heap.size := by
 obtain ⟨es, cl, hb, rfl, hk⟩ := h
 have hes : ∀ x ∈ es.toList, ∃ l, keyOf Try.prog k x.key = some l := fun x hx => hk (x.key, x.val) (List.mem_map.2 ⟨x, hx, rfl⟩)
 have hlt : b < w.heap.size := (Array.getElem?_eq_some_iff.1 hb).1
 rcases K.find w hkey es.toList hes with ⟨h1, h2⟩ | ⟨j, e0, h1, h2, h3⟩
 ·refine ⟨ChangeMaps.setBlock w b (.map (es.push ⟨key, val, cl⟩) (cl + 1)), by simp [Instr.mapUpdate, run_underlying ht, MapKept.run_getObj_map hb, K.check w false hkey, h1, MapKept.run_setObj_map _ hb, Result.andThen, ChangeMaps.setBlock], ⟨es.push ⟨key, val, cl⟩, cl + 1, by simp [ChangeMaps.setBlock, hlt], by simp, ?_⟩, ⟨rfl, rfl, rfl, by simp [ChangeMaps.setBlock], fun i _ hi => ?_⟩, by simp [ChangeMaps.setBlock]⟩
  ·intro p hp
   rcases List.mem_append.1 hp with hp | hp
   ·exact hk p hp
   ·obtain rfl := List.mem_singleton.1 hp
    exact ⟨_, hkey⟩
  ·have : b ≠ i := fun e => hi (by rw [e])
   simp [ChangeMaps.setBlock, this]
 ·exact absurd h3 (hno (e0.key, e0.val) (List.mem_map.2 ⟨e0, List.mem_of_getElem? h2, rfl⟩))
theorem operandsFit_9 {w : World} {g o c : Nat} {l : List Int} (h : Li w g o l) (h3 : l.length = 3) (hc3 : 3 ≤ c) :
  Calls Try.prog 47 #[.int .i64 9, .slice (some ⟨g, o, none⟩) 3 c] w fun e w' => e = .returned (.bool (opf 9 l)) ∧ w' = w := by
 obtain ⟨s0, hs0⟩ : ∃ s, s = l.getD 0 0 := ⟨_, rfl⟩
 have hc0 : w.cell? ⟨g, o, none⟩ = some (.int .i64 s0) := by rw [hs0]; exact h 0 (by omega)
 have hd2 : (l.drop 1).length = 2 := by rw [List.length_drop, h3]
 have HA := alike_any (c := c - 1) (Li.tail h) (by omega) (by omega)
 rw [hd2] at HA
 obtain ⟨r, hr⟩ : ∃ r, r = opf 9 l := ⟨_, rfl⟩
 rw [← hr]
 obtain ⟨b, hb⟩ : ∃ b, b = alk (l.drop 1) := ⟨_, rfl⟩
 rw [← hb] at HA
 have HAH : Hid _ := HA
 have e : r = (decide (s0 = 0) && b) := by rw [hr, hs0, hb]; rfl
 clear hr hs0 hb HA h
 by_cases z : s0 = 0
 ·have e2 : r = b := by rw [e]; simp [z]
  have HE : Hid (r = b) := e2
  subst z
  clear e e2
  go_enter Try.func47, Try.ntmps47
  go_wp2_with fail
  refine Calls.mono HAH.out ?_
  rintro e wz ⟨rfl, rfl⟩
  go_wp2_with fail
  go_ret
  exact ⟨by rw [HE.out]; rfl, rfl⟩
 ·have e2 : r = false := by rw [e]; simp [z]
  have HE : Hid (r = false) := e2
  have z2 : (s0 == 0) = false := by simp [z]
  clear e e2
  go_enter Try.func47, Try.ntmps47
  go_wp2_with fail
  go_ret
  exact ⟨by rw [HE.out]; rfl, rfl⟩
theorem operandsFit_38 {w : World} {g o c : Nat} {l : List Int} (h : Li w g o l) (h3 : l.length = 2) :
  Calls Try.prog 47 #[.int .i64 38, .slice (some ⟨g, o, none⟩) 2 c] w fun e w' => e = .returned (.bool (opf 38 l)) ∧ w' = w := by
 obtain ⟨s0, hs0⟩ : ∃ s, s = l.getD 0 0 := ⟨_, rfl⟩
 obtain ⟨s1, hs1⟩ : ∃ s, s = l.getD 1 0 := ⟨_, rfl⟩
 have hc0 : w.cell? ⟨g, o, none⟩ = some (.int .i64 s0) := by rw [hs0]; exact h 0 (by omega)
 have hc1 : w.cell? ⟨g, o + 1, none⟩ = some (.int .i64 s1) := by rw [hs1]; exact h 1 (by omega)
 obtain ⟨r, hr⟩ : ∃ r, r = opf 38 l := ⟨_, rfl⟩
 rw [← hr]
 have e : r = (!decide (s0 = 0) && !decide (s1 = 0)) := by rw [hr, hs0, hs1]; rfl
 clear hr hs0 hs1 h
 by_cases z : s0 = 0
 ·have HE : Hid (r = false) := by unfold Hid; rw [e]; simp [z]
  subst z
  clear e
  go_enter Try.func47, Try.ntmps47
  go_wp2
  go_ret
  exact ⟨by rw [HE.out]; rfl, rfl⟩
 ·have z2 : (s0 == 0) = false := by simp [z]
  have z3 : (s0 != 0) = true := by simp [z]
  by_cases y : s1 = 0
  ·have HE : Hid (r = false) := by unfold Hid; rw [e]; simp [y]
   subst y
   clear e
   go_enter Try.func47, Try.ntmps47
   go_wp2
   go_ret
   exact ⟨by rw [HE.out]; rfl, rfl⟩
  ·have HE : Hid (r = true) := by unfold Hid; rw [e]; simp [z, y]
   have y2 : (s1 == 0) = false := by simp [y]
   have y3 : (s1 != 0) = true := by simp [y]
   clear e
   go_enter Try.func47, Try.ntmps47
   go_wp2
   go_ret
   exact ⟨by rw [HE.out]; rfl, rfl⟩
end Go.Proofs.Ytedldoobmmhloaa
