import Derived.Test.YtejljdbkocnhlaaGreatMg5
import Derived.Deep.QuietTactic
import Derived.BigQuiet
namespace Go.Proofs.YtejljdbkocnhlaaGreat
set_option maxHeartbeats 12800000
set_option maxRecDepth 100000
open Go.RowKit
set_option linter.unusedSimpArgs false
set_option linter.unusedVariables false
def cstS (n : Nd) : Int × Int := if rgt n.w n.lo n.hi && decide (n.w = n.s) && decide (n.p = 0) && decide (n.q = 0) then (n.s, 0) else (0, 30)
structure Fi (n : Nd) : Prop where
 l0 : 0 ≤ n.lo
 l1 : n.lo < 18446744073709551616
 h0 : 0 ≤ n.hi
 h1 : n.hi < 18446744073709551616
 nm : n.nm.size ≤ maxLen
theorem cst_any {n : Nd} (hf : Fi n) (w : World) :
  Rt 92 #[.agg #[.int .i64 n.op, .int .i64 n.s, .int .i64 n.a, .int .i64 n.b, .int .i64 n.c, .int .i64 n.p, .int .i64 n.q, .int .i64 n.w, .int .u64 n.lo, .int .u64 n.hi, .string n.nm]] w (.tuple #[.int .i64 (cstS n).1, .int .i64 (cstS n).2]) := by
 obtain ⟨r, hr⟩ : ∃ r, r = rgt n.w n.lo n.hi := ⟨_, rfl⟩
 have HA : Hid (∀ wx, Rt 60 #[.agg #[.int .i64 n.w, .int .u64 n.lo, .int .u64 n.hi]] wx (.bool r)) := fun wx => by rw [hr]; exact right_all hf.l0 hf.l1 hf.h0 hf.h1 wx
 have e0 : cstS n = if r && decide (n.w = n.s) && decide (n.p = 0) && decide (n.q = 0) then (n.s, 0) else (0, 30) := by unfold cstS; rw [hr]
 rw [e0]
 clear hf hr e0
 obtain ⟨E, hE⟩ : ∃ E : Int × Int, E = (if r && decide (n.w = n.s) && decide (n.p = 0) && decide (n.q = 0) then (n.s, 0) else (0, 30)) := ⟨_, rfl⟩
 rw [← hE]
 have HE : Hid _ := hE
 clear hE
 cases r
 ·skip
  go_enter Tryz.func92, Tryz.ntmps92
  go_wp2_with fail
  refine (HA.out _).mono ?_
  rintro e wz ⟨rfl, hb⟩
  have c1 : wz.cell? ⟨w.heap.size, 1, none⟩ = some (.int .i64 n.s) := by rw [hb.cell (p := ⟨w.heap.size, 1, none⟩) (by simp)]; simp
  have c5 : wz.cell? ⟨w.heap.size, 5, none⟩ = some (.int .i64 n.p) := by rw [hb.cell (p := ⟨w.heap.size, 5, none⟩) (by simp)]; simp
  have c6 : wz.cell? ⟨w.heap.size, 6, none⟩ = some (.int .i64 n.q) := by rw [hb.cell (p := ⟨w.heap.size, 6, none⟩) (by simp)]; simp
  have c7 : wz.cell? ⟨w.heap.size, 7, none⟩ = some (.int .i64 n.w) := by rw [hb.cell (p := ⟨w.heap.size, 7, none⟩) (by simp)]; simp
  have hB : Below w.heap.size w wz := Below.trans (by go_grown) (hb.mono (by simp))
  clear hb
  go_wp2_with fail
  refine bodyPost_ret (v := .tuple #[.int .i64 0, .int .i64 30]) (by simp [results, Tryz.results92, go_sem]) rfl ?_
  exact ⟨by rw [HE.out]; simp [go_sem], hB⟩
 ·by_cases h1 : n.w = n.s
  rotate_left 1
  ·skip
   have z1 : (n.w == n.s) = false := by simp [h1]
   have y1 : (n.w != n.s) = true := by simp [h1]
   have H1 : Hid _ := h1
   clear h1
   go_enter Tryz.func92, Tryz.ntmps92
   go_wp2_with fail
   refine (HA.out _).mono ?_
   rintro e wz ⟨rfl, hb⟩
   have c1 : wz.cell? ⟨w.heap.size, 1, none⟩ = some (.int .i64 n.s) := by rw [hb.cell (p := ⟨w.heap.size, 1, none⟩) (by simp)]; simp
   have c5 : wz.cell? ⟨w.heap.size, 5, none⟩ = some (.int .i64 n.p) := by rw [hb.cell (p := ⟨w.heap.size, 5, none⟩) (by simp)]; simp
   have c6 : wz.cell? ⟨w.heap.size, 6, none⟩ = some (.int .i64 n.q) := by rw [hb.cell (p := ⟨w.heap.size, 6, none⟩) (by simp)]; simp
   have c7 : wz.cell? ⟨w.heap.size, 7, none⟩ = some (.int .i64 n.w) := by rw [hb.cell (p := ⟨w.heap.size, 7, none⟩) (by simp)]; simp
   have hB : Below w.heap.size w wz := Below.trans (by go_grown) (hb.mono (by simp))
   clear hb
   go_wp2_with fail
   refine bodyPost_ret (v := .tuple #[.int .i64 0, .int .i64 30]) (by simp [results, Tryz.results92, go_sem]) rfl ?_
   exact ⟨by rw [HE.out]; simp [show ¬ n.w = n.s from H1.out], hB⟩
  have z1 : (n.w == n.s) = true := by simp [h1]
  have y1 : (n.w != n.s) = false := by simp [h1]
  have H1 : Hid _ := h1
  clear h1
  by_cases h2 : n.p = 0
  rotate_left 1
  ·skip
   have z2 : (n.p == 0) = false := by simp [h2]
   have y2 : (n.p != 0) = true := by simp [h2]
   have H2 : Hid _ := h2
   clear h2
   go_enter Tryz.func92, Tryz.ntmps92
   go_wp2_with fail
   refine (HA.out _).mono ?_
   rintro e wz ⟨rfl, hb⟩
   have c1 : wz.cell? ⟨w.heap.size, 1, none⟩ = some (.int .i64 n.s) := by rw [hb.cell (p := ⟨w.heap.size, 1, none⟩) (by simp)]; simp
   have c5 : wz.cell? ⟨w.heap.size, 5, none⟩ = some (.int .i64 n.p) := by rw [hb.cell (p := ⟨w.heap.size, 5, none⟩) (by simp)]; simp
   have c6 : wz.cell? ⟨w.heap.size, 6, none⟩ = some (.int .i64 n.q) := by rw [hb.cell (p := ⟨w.heap.size, 6, none⟩) (by simp)]; simp
   have c7 : wz.cell? ⟨w.heap.size, 7, none⟩ = some (.int .i64 n.w) := by rw [hb.cell (p := ⟨w.heap.size, 7, none⟩) (by simp)]; simp
   have hB : Below w.heap.size w wz := Below.trans (by go_grown) (hb.mono (by simp))
   clear hb
   go_wp2_with fail
   refine bodyPost_ret (v := .tuple #[.int .i64 0, .int .i64 30]) (by simp [results, Tryz.results92, go_sem]) rfl ?_
   exact ⟨by rw [HE.out]; simp [show ¬ n.p = 0 from H2.out], hB⟩
  have z2 : (n.p == 0) = true := by simp [h2]
  have y2 : (n.p != 0) = false := by simp [h2]
  have H2 : Hid _ := h2
  clear h2
  by_cases h3 : n.q = 0
  rotate_left 1
  ·skip
   have z3 : (n.q == 0) = false := by simp [h3]
   have y3 : (n.q != 0) = true := by simp [h3]
   have H3 : Hid _ := h3
   clear h3
   go_enter Tryz.func92, Tryz.ntmps92
   go_wp2_with fail
   refine (HA.out _).mono ?_
   rintro e wz ⟨rfl, hb⟩
   have c1 : wz.cell? ⟨w.heap.size, 1, none⟩ = some (.int .i64 n.s) := by rw [hb.cell (p := ⟨w.heap.size, 1, none⟩) (by simp)]; simp
   have c5 : wz.cell? ⟨w.heap.size, 5, none⟩ = some (.int .i64 n.p) := by rw [hb.cell (p := ⟨w.heap.size, 5, none⟩) (by simp)]; simp
   have c6 : wz.cell? ⟨w.heap.size, 6, none⟩ = some (.int .i64 n.q) := by rw [hb.cell (p := ⟨w.heap.size, 6, none⟩) (by simp)]; simp
   have c7 : wz.cell? ⟨w.heap.size, 7, none⟩ = some (.int .i64 n.w) := by rw [hb.cell (p := ⟨w.heap.size, 7, none⟩) (by simp)]; simp
   have hB : Below w.heap.size w wz := Below.trans (by go_grown) (hb.mono (by simp))
   clear hb
   go_wp2_with fail
   refine bodyPost_ret (v := .tuple #[.int .i64 0, .int .i64 30]) (by simp [results, Tryz.results92, go_sem]) rfl ?_
   exact ⟨by rw [HE.out]; simp [show ¬ n.q = 0 from H3.out], hB⟩
  have z3 : (n.q == 0) = true := by simp [h3]
  have y3 : (n.q != 0) = false := by simp [h3]
  have H3 : Hid _ := h3
  clear h3
  go_enter Tryz.func92, Tryz.ntmps92
  go_wp2_with fail
  refine (HA.out _).mono ?_
  rintro e wz ⟨rfl, hb⟩
  have c1 : wz.cell? ⟨w.heap.size, 1, none⟩ = some (.int .i64 n.s) := by rw [hb.cell (p := ⟨w.heap.size, 1, none⟩) (by simp)]; simp
  have c5 : wz.cell? ⟨w.heap.size, 5, none⟩ = some (.int .i64 n.p) := by rw [hb.cell (p := ⟨w.heap.size, 5, none⟩) (by simp)]; simp
  have c6 : wz.cell? ⟨w.heap.size, 6, none⟩ = some (.int .i64 n.q) := by rw [hb.cell (p := ⟨w.heap.size, 6, none⟩) (by simp)]; simp
  have c7 : wz.cell? ⟨w.heap.size, 7, none⟩ = some (.int .i64 n.w) := by rw [hb.cell (p := ⟨w.heap.size, 7, none⟩) (by simp)]; simp
  have hB : Below w.heap.size w wz := Below.trans (by go_grown) (hb.mono (by simp))
  clear hb
  go_wp2_with fail
  refine bodyPost_ret (v := .tuple #[.int .i64 n.s, .int .i64 0]) (by simp [results, Tryz.results92, go_sem]) rfl ?_
  exact ⟨by rw [HE.out]; simp [H1.out, H2.out, H3.out], hB⟩
theorem bel_cell {w x : World} {g j : Nat} {v : Value} (hb : Below w.heap.size w x) (hg : g < w.heap.size) (h : w.cell? ⟨g, j, none⟩ = some v) : x.cell? ⟨g, j, none⟩ = some v := by
 rw [hb.cell (p := ⟨g, j, none⟩) hg]; exact h
theorem Mp.no {w : World} {k e t : TypeId} {b : Nat} {L : List (Value × Value)} (h : Mp w k b L) (K : WideMaps.KeyLaw Tryz.prog k) (ht : Tryz.prog.underlying t = some (.map k e)) {z : Value} (hz : (zeroValue e).run Tryz.prog w = .ok z w)
  {key : Value} {kl : Lit} (hkey : keyOf Tryz.prog k key = some kl) (hn : ∀ p ∈ L, p.1 ≠ key) : (Instr.lookup t (.map (some b)) key true).run Tryz.prog w = .ok (.tuple #[z, .bool false]) w := by
 rcases h.look K ht hz hkey with ⟨hr, _⟩ | ⟨p, hp, he, _⟩
 ·exact hr
 ·exact absurd he (hn p hp)
theorem Mp.yes {w : World} {k e t : TypeId} {b : Nat} {L : List (Value × Value)} (h : Mp w k b L) (K : WideMaps.KeyLaw Tryz.prog k) (ht : Tryz.prog.underlying t = some (.map k e)) {z : Value} (hz : (zeroValue e).run Tryz.prog w = .ok z w)
  {key x : Value} {kl : Lit} (hkey : keyOf Tryz.prog k key = some kl) (hin : (key, x) ∈ L) (hu : ∀ p ∈ L, p.1 = key → p.2 = x) : (Instr.lookup t (.map (some b)) key true).run Tryz.prog w = .ok (.tuple #[x, .bool true]) w := by
 rcases h.look K ht hz hkey with ⟨_, hn⟩ | ⟨p, hp, he, hr⟩
 ·exact absurd rfl (hn _ hin)
 ·rw [hr, hu p hp he]
theorem idL_uniq {ns : List Nd} (hv : Inv ns) {i : Nat} {n : Nd} (h : ns[i]? = some n) : ∀ p ∈ idL ns, p.1 = n.val → p.2 = .int .i64 ((i : Int) + 1) := by
 intro p hp he
 obtain ⟨j, m, hj, rfl⟩ := mem_idL hp
 have := Nd.val_inj he
 subst this
 obtain ⟨h1, e1⟩ := List.getElem?_eq_some_iff.1 h
 obtain ⟨h2, e2⟩ := List.getElem?_eq_some_iff.1 hj
 by_cases hij : i = j
 ·subst hij; rfl
 ·rcases Nat.lt_or_gt_of_ne hij with hl | hl
  ·exact absurd (e1.trans e2.symm) (List.pairwise_iff_getElem.1 hv.once i j h1 h2 hl)
  ·exact absurd (e2.trans e1.symm) (List.pairwise_iff_getElem.1 hv.once j i h2 h1 hl)
theorem varL_uniq {ns : List Nd} (hv : Inv ns) {i : Nat} {n : Nd} (h : ns[i]? = some n) (h2 : n.op = 2) : ∀ p ∈ varL ns, p.1 = .string n.nm → p.2 = .int .i64 ((i : Int) + 1) := by
 intro p hp he
 obtain ⟨j, m, hj, hm2, rfl⟩ := mem_varL hp
 have e : m.nm = n.nm := by simpa using he
 have := hv.names m (List.mem_of_getElem? hj) n (List.mem_of_getElem? h) hm2 h2 e
 subst this
 exact idL_uniq hv h (m.val, .int .i64 ((j : Int) + 1)) (in_idL hj) rfl
def varS (ns : List Nd) (n : Nd) : Int × Int := if srt n.s && decide (n.p = 0) && decide (n.q = 0) then (if n.nm.size == 0 || clash ns n then (0, 34) else (n.s, 0)) else (0, 30)
theorem clash_none {ns : List Nd} {n : Nd} (h : ∀ m ∈ ns, m.op = 2 → m.nm ≠ n.nm) : clash ns n = false := by
 unfold clash
 rw [List.any_eq_false]
 intro m hm
 by_cases h2 : m.op = 2 <;> simp [h2]
 intro e
 exact absurd e (h m hm h2)
theorem clash_some {ns : List Nd} (hv : Inv ns) {n m : Nd} (hm : m ∈ ns) (h2 : m.op = 2) (hn : m.nm = n.nm) : clash ns n = !decide (m.s = n.s) := by
 unfold clash
 by_cases e : m.s = n.s
 ·rw [show (!decide (m.s = n.s)) = false by simp [e], List.any_eq_false]
  intro x hx
  by_cases hx2 : x.op = 2 <;> simp [hx2]
  intro ex
  rw [hv.names x hx m hm hx2 h2 (by rw [ex, hn])]
  exact e
 ·rw [show (!decide (m.s = n.s)) = true by simp [e], List.any_eq_true]
  exact ⟨m, hm, by simp [h2, hn, e]⟩
theorem vrs_any {w : World} {B g mi mv mo : Nat} {v : Value} {ns : List Nd} (h : Gr w B g mi mv v mo ns) {n : Nd} (hf : Fi n) :
  Rt 93 #[.pointer (some ⟨g, 0, none⟩), .agg #[.int .i64 n.op, .int .i64 n.s, .int .i64 n.a, .int .i64 n.b, .int .i64 n.c, .int .i64 n.p, .int .i64 n.q, .int .i64 n.w, .int .u64 n.lo, .int .u64 n.hi, .string n.nm]] w (.tuple #[.int .i64 (varS ns n).1, .int .i64 (varS ns n).2]) := by
 obtain ⟨r, hr⟩ : ∃ r, r = srt n.s := ⟨_, rfl⟩
 have HA : Hid (∀ wx, Calls Tryz.prog 104 #[.int .i64 n.s] wx fun e w' => e = .returned (.bool r) ∧ w' = wx) := fun wx => by rw [hr]; exact isSort_any _ wx
 obtain ⟨E, hE⟩ : ∃ E, E = varS ns n := ⟨_, rfl⟩
 rw [← hE]
 have HE : Hid (E = if r && decide (n.p = 0) && decide (n.q = 0) then (if n.nm.size == 0 || clash ns n then (0, 34) else (n.s, 0)) else (0, 30)) := by rw [hE, hr]; rfl
 clear hr hE
 have hem := emp_eq n.nm
 cases r
 ·skip
  go_enter Tryz.func93, Tryz.ntmps93
  go_wp2_with fail
  refine (HA.out _).mono ?_
  rintro e wz ⟨rfl, rfl⟩
  go_wp2_with fail
  refine bodyPost_ret (v := .tuple #[.int .i64 0, .int .i64 30]) (by simp [results, Tryz.results93, go_sem]) rfl ?_
  exact ⟨by rw [HE.out]; simp [go_sem], by go_grown⟩
 ·by_cases h2 : n.p = 0
  rotate_left 1
  ·skip
   have z2 : (n.p == 0) = false := by simp [h2]
   have y2 : (n.p != 0) = true := by simp [h2]
   have H2 : Hid _ := h2
   clear h2
   go_enter Tryz.func93, Tryz.ntmps93
   go_wp2_with fail
   refine (HA.out _).mono ?_
   rintro e wz ⟨rfl, rfl⟩
   go_wp2_with fail
   refine bodyPost_ret (v := .tuple #[.int .i64 0, .int .i64 30]) (by simp [results, Tryz.results93, go_sem]) rfl ?_
   exact ⟨by rw [HE.out]; simp [show ¬ n.p = 0 from H2.out], by go_grown⟩
  have z2 : (n.p == 0) = true := by simp [h2]
  have y2 : (n.p != 0) = false := by simp [h2]
  have H2 : Hid _ := h2
  clear h2
  by_cases h3 : n.q = 0
  rotate_left 1
  ·skip
   have z3 : (n.q == 0) = false := by simp [h3]
   have y3 : (n.q != 0) = true := by simp [h3]
   have H3 : Hid _ := h3
   clear h3
   go_enter Tryz.func93, Tryz.ntmps93
   go_wp2_with fail
   refine (HA.out _).mono ?_
   rintro e wz ⟨rfl, rfl⟩
   go_wp2_with fail
   refine bodyPost_ret (v := .tuple #[.int .i64 0, .int .i64 30]) (by simp [results, Tryz.results93, go_sem]) rfl ?_
   exact ⟨by rw [HE.out]; simp [show ¬ n.q = 0 from H3.out], by go_grown⟩
  have z3 : (n.q == 0) = true := by simp [h3]
  have y3 : (n.q != 0) = false := by simp [h3]
  have H3 : Hid _ := h3
  clear h3
  cases hs : n.nm.size == 0
  rotate_left 1
  ·have HS : Hid _ := hs
   rw [hs] at hem
   clear hs
   go_enter Tryz.func93, Tryz.ntmps93
   go_wp2_with fail
   refine (HA.out _).mono ?_
   rintro e wz ⟨rfl, rfl⟩
   go_wp2_with fail
   refine bodyPost_ret (v := .tuple #[.int .i64 0, .int .i64 34]) (by simp [results, Tryz.results93, go_sem]) rfl ?_
   exact ⟨by rw [HE.out]; simp [H2.out, H3.out, HS.out], by go_grown⟩
  have HS : Hid _ := hs
  rw [hs] at hem
  clear hs
  have HG : Hid _ := h
  have c3 := h.c3
  have c1 := h.c1
  have hg := h.lt
  have hlen := h.len
  have hcl : Hid (((∀ m ∈ ns, m.op = 2 → m.nm ≠ n.nm) ∧ clash ns n = false) ∨ ∃ (i : Nat) (m : Nd), ns[i]? = some m ∧ m.op = 2 ∧ m.nm = n.nm ∧ clash ns n = !decide (m.s = n.s)) := by
   by_cases hx : ∃ m ∈ ns, m.op = 2 ∧ m.nm = n.nm
   ·obtain ⟨m, hm, h2, hn⟩ := hx
    obtain ⟨i, hi, em⟩ := List.getElem_of_mem hm
    exact Or.inr ⟨i, m, by rw [List.getElem?_eq_getElem hi, em], h2, hn, clash_some h.inv hm h2 hn⟩
   ·have hx' : ∀ m ∈ ns, m.op = 2 → m.nm ≠ n.nm := fun m hm h2 hn => hx ⟨m, hm, h2, hn⟩
    exact Or.inl ⟨hx', clash_none hx'⟩
  have hk := strKey hf.nm
  rcases hcl.out with ⟨hno, hcf⟩ | ⟨i, m, hi, hm2, hmn, hcf⟩
  ·have HL : Hid (∀ x, Below w.heap.size w x → (Instr.lookup 89 (.map (some mv)) (.string n.nm) true).run Tryz.prog x = .ok (.tuple #[.int .i64 0, .bool false]) x) := fun x hb => (h.below hb).vars.no strLaw varsUnder (zeroInt x) hk (fun p hp e => by
    obtain ⟨j, q, hj, hq2, rfl⟩ := mem_varL hp
    exact hno q (List.mem_of_getElem? hj) hq2 (by simpa using e))
   have HC : Hid _ := hcf
   clear h hf hk hno hcf hcl
   go_enter Tryz.func93, Tryz.ntmps93
   go_wp2_with fail
   refine (HA.out _).mono ?_
   rintro e wz ⟨rfl, rfl⟩
   go_wp2_with fail
   go_region_held3 (fun x => x.cell? ⟨g, 3, none⟩ = some (.map (some mv)) ∧ x.cell? ⟨w.heap.size, 10, none⟩ = some (.string n.nm) ∧ (Instr.lookup 89 (.map (some mv)) (.string n.nm) true).run Tryz.prog x = .ok (.tuple #[.int .i64 0, .bool false]) x)
    (exact ⟨bel_cell (by go_grown) hg c3, by simp [go_sem], HL.out _ (by go_grown)⟩)
    (fail)
   go_wp2_with fail
   go_quiet (fail)
   go_wp2_with fail
   refine bodyPost_ret (v := .tuple #[.int .i64 n.s, .int .i64 0]) (by simp [results, Tryz.results93, go_sem]) rfl ?_
   exact ⟨by rw [HE.out]; simp [H2.out, H3.out, HS.out, HC.out], below_drewN (by go_grown) _⟩
  ·obtain ⟨rr, cap, rfl, hBr, ⟨cur, hr⟩, hc⟩ := row_at (mo := mo) h.row hi
   have hrl : rr < w.heap.size := (Array.getElem?_eq_some_iff.1 hr).1
   have hlt : i < ns.length := (List.getElem?_eq_some_iff.1 hi).1
   have d1 := hc 1 _ rfl
   have HL : Hid (∀ x, Below w.heap.size w x → (Instr.lookup 89 (.map (some mv)) (.string n.nm) true).run Tryz.prog x = .ok (.tuple #[.int .i64 ((i : Int) + 1), .bool true]) x) := fun x hb => by
    rw [← hmn] at hk ⊢
    exact (h.below hb).vars.yes strLaw varsUnder (zeroInt x) hk (in_varL hi hm2) (varL_uniq h.inv hi hm2)
   have HC : Hid _ := hcf
   have e1 : wrap64 (i : Int) = i := by unfold wrap64; omega
   have b1 : (i : Int) < (ns.length : Int) := by omega
   clear h hf hk hcf hcl hc hr hi hm2 hmn
   obtain ⟨N, hN⟩ : ∃ N, N = ns.length := ⟨_, rfl⟩
   rw [← hN] at c1 b1 hlt
   clear hN hlen
   by_cases h4 : m.s = n.s
   ·have z4 : (m.s == n.s) = true := by simp [h4]
    have y4 : (m.s != n.s) = false := by simp [h4]
    have H4 : Hid _ := h4
    clear h4
    go_enter Tryz.func93, Tryz.ntmps93
    go_wp2_with fail
    refine (HA.out _).mono ?_
    rintro e wz ⟨rfl, rfl⟩
    go_wp2_with fail
    go_region_held3 (fun x => x.cell? ⟨g, 3, none⟩ = some (.map (some mv)) ∧ x.cell? ⟨w.heap.size, 10, none⟩ = some (.string n.nm) ∧ (Instr.lookup 89 (.map (some mv)) (.string n.nm) true).run Tryz.prog x = .ok (.tuple #[.int .i64 ((i : Int) + 1), .bool true]) x)
     (exact ⟨bel_cell (by go_grown) hg c3, by simp [go_sem], HL.out _ (by go_grown)⟩)
     (fail)
    go_wp2_with fail
    go_quiet (fail)
    go_wp2_with fail
    refine bodyPost_ret (v := .tuple #[.int .i64 n.s, .int .i64 0]) (by simp [results, Tryz.results93, go_sem]) rfl ?_
    exact ⟨by rw [HE.out]; simp [H2.out, H3.out, HS.out, HC.out, H4.out], below_drewN (by go_grown) _⟩
   ·have z4 : (m.s == n.s) = false := by simp [h4]
    have y4 : (m.s != n.s) = true := by simp [h4]
    have H4 : Hid _ := h4
    clear h4
    go_enter Tryz.func93, Tryz.ntmps93
    go_wp2_with fail
    refine (HA.out _).mono ?_
    rintro e wz ⟨rfl, rfl⟩
    go_wp2_with fail
    go_region_held3 (fun x => x.cell? ⟨g, 3, none⟩ = some (.map (some mv)) ∧ x.cell? ⟨w.heap.size, 10, none⟩ = some (.string n.nm) ∧ (Instr.lookup 89 (.map (some mv)) (.string n.nm) true).run Tryz.prog x = .ok (.tuple #[.int .i64 ((i : Int) + 1), .bool true]) x)
     (exact ⟨bel_cell (by go_grown) hg c3, by simp [go_sem], HL.out _ (by go_grown)⟩)
     (fail)
    go_wp2_with fail
    go_quiet (fail)
    go_wp2_with fail
    refine bodyPost_ret (v := .tuple #[.int .i64 0, .int .i64 34]) (by simp [results, Tryz.results93, go_sem]) rfl ?_
    exact ⟨by rw [HE.out]; simp [H2.out, H3.out, HS.out, HC.out, show ¬ m.s = n.s from H4.out], below_drewN (by go_grown) _⟩
def Is' (w : World) (base : Nat) (v : Value) (l : List Int) : Prop := w.ownsRow base 3 1 v l.length (l.map (Value.int .i64))
theorem Is'.li {w : World} {base : Nat} {v : Value} {l : List Int} (h : Is' w base v l) (hl : l ≠ []) : ∃ r cap, v = .slice (some ⟨r, 0, none⟩) l.length cap ∧ base ≤ r ∧ l.length ≤ cap ∧ Li w r 0 l := by
 rcases h.2 with ⟨rfl, hn⟩ | ⟨r, cap, cur, rfl, hb, hg, hc, _, hs, ht⟩
 ·exact absurd (List.eq_nil_of_length_eq_zero hn) hl
 ·refine ⟨r, cap, rfl, hb, hc, fun j hj => ?_⟩
  have e : (l.map (Value.int .i64))[j]? = some (.int .i64 (l.getD j 0)) := by
   rw [List.getElem?_map, List.getElem?_eq_getElem hj, List.getD_eq_getElem?_getD, List.getElem?_eq_getElem hj]; rfl
  rw [← ht, List.getElem?_take_of_lt (by omega)] at e
  rw [Nat.zero_add]
  exact cell_of hg _ (by simpa using e)
theorem ones (l : List Int) : ∀ u ∈ l.map (Value.int .i64), u.oneCell' = true := by
 intro u hu
 obtain ⟨x, _, rfl⟩ := List.mem_map.1 hu
 rfl
theorem row_all {w : World} {B : Nat} {v : Value} {ns : List Nd} (h : w.ownsRow B 53 11 v ns.length (ns.flatMap Nd.cs)) (hne : 0 < ns.length) :
  ∃ r cap, v = .slice (some ⟨r, 0, none⟩) ns.length cap ∧ B ≤ r ∧ r < w.heap.size ∧ ∀ (i : Nat) (n : Nd), ns[i]? = some n → ∀ j u, n.cs[j]? = some u → w.cell? ⟨r, i * 11 + j, none⟩ = some u := by
 rcases h.2 with ⟨hv, hn⟩ | ⟨r, cap, cur, hv, hb, hg, _, _, hs, ht⟩
 ·omega
 ·refine ⟨r, cap, hv, hb, (Array.getElem?_eq_some_iff.1 hg).1, fun i n hi j u hj => ?_⟩
  have hlt : i < ns.length := (List.getElem?_eq_some_iff.1 hi).1
  have hj11 : j < 11 := (List.getElem?_eq_some_iff.1 hj).1
  have e : (ns.flatMap Nd.cs)[i * 11 + j]? = some u := by rw [css_at hi j hj11]; exact hj
  rw [← ht, List.getElem?_take_of_lt (by omega)] at e
  exact cell_of hg _ (by simpa using e)
theorem own_mono {w : World} {b b' : Nat} {e : TypeId} {sz : Nat} {v : Value} {n : Nat} {xs : List Value} (h : w.ownsRow b e sz v n xs) (hb : b' ≤ b) : w.ownsRow b' e sz v n xs := by
 refine ⟨h.1, ?_⟩
 rcases h.2 with hn | ⟨g, cap, cur, rfl, h1, rest⟩
 ·exact .inl hn
 ·exact .inr ⟨g, cap, cur, rfl, Nat.le_trans hb h1, rest⟩
theorem sAt_of {ns : List Nd} {i : Nat} {m : Nd} (h : ns[i]? = some m) : sAt ns ((i : Int) + 1) = m.s := by
 unfold sAt
 rw [show ((i : Int) + 1 - 1).toNat = i by omega, h]; rfl
theorem has_node {ns : List Nd} {x : Int} (h : hasB ns.length x = true) : ∃ (i : Nat) (m : Nd), ns[i]? = some m ∧ x = (i : Int) + 1 := by
 have h' : 1 ≤ x ∧ x ≤ (ns.length : Int) := by simpa [hasB] using h
 have hi : (x - 1).toNat < ns.length := by omega
 exact ⟨(x - 1).toNat, ns[(x - 1).toNat], List.getElem?_eq_getElem hi, by omega⟩
theorem info3 : (Tryz.prog.info? 3).map (fun i => (i.zero, i.size, i.bytes)) = some (some (.int .i64 0), 1, 8) := by kernel_rfl
theorem under45 : Tryz.prog.underlying 24 = some (.slice 3) := by kernel_rfl
theorem osr_0 {w : World} {B g mi mv mo : Nat} {v : Value} {ns : List Nd} (h : Gr w B g mi mv v mo ns) {n : Nd} (hk : ari n.op = 0) (hp : prt ns.length n = true) :
  Calls Tryz.prog 94 #[.pointer (some ⟨g, 0, none⟩), .agg #[.int .i64 n.op, .int .i64 n.s, .int .i64 n.a, .int .i64 n.b, .int .i64 n.c, .int .i64 n.p, .int .i64 n.q, .int .i64 n.w, .int .u64 n.lo, .int .u64 n.hi, .string n.nm]] w fun e w' => ∃ u, e = .returned u ∧ Is' w' w.heap.size u (oss ns n) ∧ Below w.heap.size w w' := by
 have HA : Hid (∀ wx, Calls Tryz.prog 61 #[.int .i64 n.op] wx fun e w' => e = .returned (.int .i64 0) ∧ w' = wx) := fun wx => by rw [← hk]; exact arity_any _ wx
 clear hp
 go_enter Tryz.func94, Tryz.ntmps94
 go_wp2_with fail
 refine (HA.out _).mono ?_
 rintro e wz ⟨rfl, rfl⟩
 go_wp2_with fail
 refine wp_loop_rounds 1 ?_
 rw [rounds_succ]
 go_wp2_with fail
 go_ret
 refine ⟨_, rfl, ?_, by go_grown⟩
 have e : oss ns n = [] := by unfold oss; rw [hk]; rfl
 rw [e]
 exact World.ownsRow_nil _ _ _ _
theorem low_grown {B : Nat} {w wr w1 : World} {o : Obj} {row : Option Nat} (h : Below B w wr) (hB : B ≤ wr.heap.size) (hg : (wr.alloc o).grownBy w1 row) (hr : ∀ q, row = some q → B ≤ q) : Below B w w1 :=
 ⟨hg.os.trans h.os, hg.tape.trans h.tape, hg.output.trans h.output, Nat.le_trans h.size (Nat.le_trans (by simp) hg.size), fun q hq => (hg.block q (by simp; omega) (fun e => by have := hr q e.symm; omega)).trans ((heap_alloc_old wr o (by omega)).trans (h.block q hq))⟩
theorem cell_grown {B : Nat} {wr w1 : World} {o : Obj} {row : Option Nat} {a : Addr} {v : Value} (hg : (wr.alloc o).grownBy w1 row) (hr : ∀ q, row = some q → B ≤ q) (ha : a.block < B) (h : wr.cell? a = some v) : w1.cell? a = some v :=
 hg.cell ((World.cell?_of_block (heap_alloc_old wr o (World.block_lt_of_cell? wr a h))).trans h) (fun e => by have := hr _ e.symm; omega)
def opn (n : Nd) (j : Nat) : Int := [n.a, n.b, n.c].getD j 0
theorem oss_len {ns : List Nd} {n : Nd} {k : Nat} (hk : ari n.op = k) (hk3 : k ≤ 3) : (oss ns n).length = k := by
 unfold oss; rw [hk]; simp; omega
theorem opn_node {ns : List Nd} {n : Nd} {k : Nat} (hk : ari n.op = k) (hk3 : k ≤ 3) (hp : prt ns.length n = true) (j : Nat) (hj : j < k) : ∃ (i : Nat) (m : Nd), ns[i]? = some m ∧ opn n j = (i : Int) + 1 ∧ (oss ns n)[j]? = some m.s := by
 rw [prt_eq hk] at hp
 simp only [Bool.and_eq_true] at hp
 obtain ⟨⟨⟨⟨⟨-, h0⟩, h1⟩, h2⟩, -⟩, -⟩ := hp
 have hx : hasB ns.length (opn n j) = true := by
  have : j = 0 ∨ j = 1 ∨ j = 2 := by omega
  rcases this with rfl | rfl | rfl
  ·rw [opB, if_pos (by omega)] at h0; exact h0
  ·rw [opB, if_pos (by omega)] at h1; exact h1
  ·rw [opB, if_pos (by omega)] at h2; exact h2
 obtain ⟨i, m, hi, e⟩ := has_node hx
 refine ⟨i, m, hi, e, ?_⟩
 unfold oss
 rw [hk, List.getElem?_map, Int.toNat_natCast, List.getElem?_take_of_lt hj]
 have : [n.a, n.b, n.c][j]? = some (opn n j) := by
  have : j = 0 ∨ j = 1 ∨ j = 2 := by omega
  rcases this with rfl | rfl | rfl <;> rfl
 rw [this, e, Option.map_some, sAt_of hi]
theorem wrap_small {i : Nat} (h : i < 5000) : wrap64 (i : Int) = i := by unfold wrap64; omega
theorem osr_1 {w : World} {B g mi mv mo : Nat} {v : Value} {ns : List Nd} (h : Gr w B g mi mv v mo ns) {n : Nd} (hk : ari n.op = 1) (hp : prt ns.length n = true) :
  Calls Tryz.prog 94 #[.pointer (some ⟨g, 0, none⟩), .agg #[.int .i64 n.op, .int .i64 n.s, .int .i64 n.a, .int .i64 n.b, .int .i64 n.c, .int .i64 n.p, .int .i64 n.q, .int .i64 n.w, .int .u64 n.lo, .int .u64 n.hi, .string n.nm]] w fun e w' => ∃ u, e = .returned u ∧ Is' w' w.heap.size u (oss ns n) ∧ Below w.heap.size w w' := by
 have HA : Hid (∀ wx, Calls Tryz.prog 61 #[.int .i64 n.op] wx fun e w' => e = .returned (.int .i64 1) ∧ w' = wx) := fun wx => by rw [← hk]; exact arity_any _ wx
 have HP : Hid (∀ j, j < 1 → ∃ (i : Nat) (m : Nd), ns[i]? = some m ∧ opn n j = (i : Int) + 1 ∧ (oss ns n)[j]? = some m.s) := fun j hj => opn_node (k := 1) hk (by omega) hp j hj
 have hol : (oss ns n).length = 1 := oss_len (k := 1) hk (by omega)
 obtain ⟨O, hO⟩ : ∃ O, O = oss ns n := ⟨_, rfl⟩
 rw [← hO] at HP hol ⊢
 have HOL : Hid _ := hol
 have hlen := h.len
 have c1 := h.c1
 have hg := h.lt
 obtain ⟨r, cap, rfl, hBr, hrl, hc⟩ := row_all h.row (by obtain ⟨i, m, hi, -⟩ := HP.out 0 (by omega); have := (List.getElem?_eq_some_iff.1 hi).1; omega)
 have HC : Hid _ := hc
 have HC1 : Hid _ := c1
 obtain ⟨t0, ht0, hz0, hz1, hz2⟩ := info_parts info3
 have HI0 : Hid (Tryz.prog.info? 3 = some t0 ∧ t0.zero = some (.int .i64 0) ∧ t0.size = 1 ∧ t0.bytes = 8) := ⟨ht0, hz0, hz1, hz2⟩
 have HNS : Hid (∀ (i : Nat) (m : Nd), ns[i]? = some m → i < ns.length) := fun i m hi => (List.getElem?_eq_some_iff.1 hi).1
 obtain ⟨N, hN⟩ : ∃ N, N = ns.length := ⟨_, rfl⟩
 rw [← hN] at HC1 HNS hlen
 clear h hc c1 hk hp hol hO ht0 hz0 hz1 hz2 hBr hN
 go_enter Tryz.func94, Tryz.ntmps94
 go_wp2_with fail
 refine (HA.out _).mono ?_
 rintro e wz ⟨rfl, rfl⟩
 go_wp2_with fail
 go_loopw [6, 21] (fun v i wr => ∃ j : Nat, j ≤ 1 ∧ i = .int .i64 (j : Int) ∧ Is' wr (w.heap.size + 2) v (O.take j) ∧ (∀ t, t < 3 → wr.cell? ⟨w.heap.size + 1, t, none⟩ = some (.int .i64 (opn n t))) ∧ w.heap.size + 2 ≤ wr.heap.size ∧ Below w.heap.size w wr) (fun v i wr => 1 - (intOf i).toNat)
 case atStart =>
  refine ⟨0, by omega, rfl, World.ownsRow_nil _ _ _ _, ?_, by simp, by go_grown⟩
  intro t ht
  have : t = 0 ∨ t = 1 ∨ t = 2 := by omega
  rcases this with rfl | rfl | rfl <;> simp [go_sem, opn]
 case round =>
  obtain ⟨j, hj, rfl, hI, ha, hws, hbl⟩ := hrel
  have HI : Hid _ := hI
  have HX : Hid _ := ha
  clear hI ha
  by_cases hlt : j < 1
  ·obtain ⟨i, m, hi, hx, ho⟩ := HP.out j hlt
   have hin := HNS.out i m hi
   have c1 : wr.cell? ⟨g, 1, none⟩ = some (.slice (some ⟨r, 0, none⟩) N cap) := bel_cell hbl hg HC1.out
   have d1 : wr.cell? ⟨r, i * 11 + 1, none⟩ = some (.int .i64 m.s) := bel_cell hbl hrl (HC.out i m hi 1 _ rfl)
   have xj : wr.cell? ⟨w.heap.size + 1, j, none⟩ = some (.int .i64 ((i : Int) + 1)) := by rw [← hx]; exact HX.out j (by omega)
   have e0 := wrap_small (i := i) (by omega)
   have b0 : (i : Int) < (N : Int) := Int.ofNat_lt.2 hin
   have HLN : Hid ((O.take j).length = j) := by unfold Hid; rw [List.length_take, HOL.out]; omega
   have HOJ : Hid (O.take (j + 1) = O.take j ++ [m.s]) := by unfold Hid; rw [List.take_add_one, ho]; rfl
   clear hi hx ho
   go_wp2_with (at_builtin; refine wpList_append_own_at _ rfl _ _ 24 rfl (w.heap.size + 2) 3 t0 (.int .i64 0) 1 8 under45 HI0.out.1 HI0.out.2.1 HI0.out.2.2.1 HI0.out.2.2.2 rfl (by decide) _ _ _ rfl (row_kept HI.out (fun _ hq => heap_alloc_old _ _ hq)) ⟨wr.heap.size, 0, none⟩ 1 1 [.int .i64 m.s] rfl rfl (cell_one_new _ _ _) (ones [m.s]) (by rw [HLN.out]; unfold maxLen; omega) (by rw [HLN.out]; omega) (by simp; omega) ?_; intro v1 w1 hown hgrow hnil hat)
   have hrow : ∀ q, u6.ownBlock = some q → w.heap.size + 2 ≤ q := fun q hq => (HI.out.lt q hq).1
   have HI1 : Hid (Is' w1 (w.heap.size + 2) v1 (O.take (j + 1))) := by
    unfold Hid Is'
    rw [HOJ.out, List.map_append, List.length_append]
    exact hown
   have HX1 : Hid (∀ t, t < 3 → w1.cell? ⟨w.heap.size + 1, t, none⟩ = some (.int .i64 (opn n t))) := fun t ht => cell_grown hgrow hrow (by show w.heap.size + 1 < w.heap.size + 2; omega) (HX.out t ht)
   have hb1 : Below w.heap.size w w1 := low_grown hbl (by omega) hgrow (fun q hq => by have := hrow q hq; omega)
   have hs1 : w.heap.size + 2 ≤ w1.heap.size := by have := hgrow.size; simp at this; omega
   clear hown hgrow hnil hat hrow HX HI
   go_wp2_with fail
   exact ⟨⟨j + 1, by omega, by go_num, HI1.out, HX1.out, hs1, hb1⟩, by simp [intOf]; omega⟩
  ·obtain rfl : j = 1 := by omega
   have HT : Hid (O.take 1 = O) := by unfold Hid; rw [← HOL.out, List.take_length]
   have HF : Hid (Is' wr w.heap.size u6 O) := by have h := HI.out; rw [HT.out] at h; exact own_mono h (by omega)
   clear HI HX HP
   go_wp2_with fail
   go_ret
   exact ⟨_, rfl, HF.out, hbl⟩
theorem osr_2 {w : World} {B g mi mv mo : Nat} {v : Value} {ns : List Nd} (h : Gr w B g mi mv v mo ns) {n : Nd} (hk : ari n.op = 2) (hp : prt ns.length n = true) :
  Calls Tryz.prog 94 #[.pointer (some ⟨g, 0, none⟩), .agg #[.int .i64 n.op, .int .i64 n.s, .int .i64 n.a, .int .i64 n.b, .int .i64 n.c, .int .i64 n.p, .int .i64 n.q, .int .i64 n.w, .int .u64 n.lo, .int .u64 n.hi, .string n.nm]] w fun e w' => ∃ u, e = .returned u ∧ Is' w' w.heap.size u (oss ns n) ∧ Below w.heap.size w w' := by
 have HA : Hid (∀ wx, Calls Tryz.prog 61 #[.int .i64 n.op] wx fun e w' => e = .returned (.int .i64 2) ∧ w' = wx) := fun wx => by rw [← hk]; exact arity_any _ wx
 have HP : Hid (∀ j, j < 2 → ∃ (i : Nat) (m : Nd), ns[i]? = some m ∧ opn n j = (i : Int) + 1 ∧ (oss ns n)[j]? = some m.s) := fun j hj => opn_node (k := 2) hk (by omega) hp j hj
 have hol : (oss ns n).length = 2 := oss_len (k := 2) hk (by omega)
 obtain ⟨O, hO⟩ : ∃ O, O = oss ns n := ⟨_, rfl⟩
 rw [← hO] at HP hol ⊢
 have HOL : Hid _ := hol
 have hlen := h.len
 have c1 := h.c1
 have hg := h.lt
 obtain ⟨r, cap, rfl, hBr, hrl, hc⟩ := row_all h.row (by obtain ⟨i, m, hi, -⟩ := HP.out 0 (by omega); have := (List.getElem?_eq_some_iff.1 hi).1; omega)
 have HC : Hid _ := hc
 have HC1 : Hid _ := c1
 obtain ⟨t0, ht0, hz0, hz1, hz2⟩ := info_parts info3
 have HI0 : Hid (Tryz.prog.info? 3 = some t0 ∧ t0.zero = some (.int .i64 0) ∧ t0.size = 1 ∧ t0.bytes = 8) := ⟨ht0, hz0, hz1, hz2⟩
 have HNS : Hid (∀ (i : Nat) (m : Nd), ns[i]? = some m → i < ns.length) := fun i m hi => (List.getElem?_eq_some_iff.1 hi).1
 obtain ⟨N, hN⟩ : ∃ N, N = ns.length := ⟨_, rfl⟩
 rw [← hN] at HC1 HNS hlen
 clear h hc c1 hk hp hol hO ht0 hz0 hz1 hz2 hBr hN
 go_enter Tryz.func94, Tryz.ntmps94
 go_wp2_with fail
 refine (HA.out _).mono ?_
 rintro e wz ⟨rfl, rfl⟩
 go_wp2_with fail
 go_loopw [6, 21] (fun v i wr => ∃ j : Nat, j ≤ 2 ∧ i = .int .i64 (j : Int) ∧ Is' wr (w.heap.size + 2) v (O.take j) ∧ (∀ t, t < 3 → wr.cell? ⟨w.heap.size + 1, t, none⟩ = some (.int .i64 (opn n t))) ∧ w.heap.size + 2 ≤ wr.heap.size ∧ Below w.heap.size w wr) (fun v i wr => 2 - (intOf i).toNat)
 case atStart =>
  refine ⟨0, by omega, rfl, World.ownsRow_nil _ _ _ _, ?_, by simp, by go_grown⟩
  intro t ht
  have : t = 0 ∨ t = 1 ∨ t = 2 := by omega
  rcases this with rfl | rfl | rfl <;> simp [go_sem, opn]
 case round =>
  obtain ⟨j, hj, rfl, hI, ha, hws, hbl⟩ := hrel
  have HI : Hid _ := hI
  have HX : Hid _ := ha
  clear hI ha
  by_cases hlt : j < 2
  ·obtain ⟨i, m, hi, hx, ho⟩ := HP.out j hlt
   have hin := HNS.out i m hi
   have c1 : wr.cell? ⟨g, 1, none⟩ = some (.slice (some ⟨r, 0, none⟩) N cap) := bel_cell hbl hg HC1.out
   have d1 : wr.cell? ⟨r, i * 11 + 1, none⟩ = some (.int .i64 m.s) := bel_cell hbl hrl (HC.out i m hi 1 _ rfl)
   have xj : wr.cell? ⟨w.heap.size + 1, j, none⟩ = some (.int .i64 ((i : Int) + 1)) := by rw [← hx]; exact HX.out j (by omega)
   have e0 := wrap_small (i := i) (by omega)
   have b0 : (i : Int) < (N : Int) := Int.ofNat_lt.2 hin
   have HLN : Hid ((O.take j).length = j) := by unfold Hid; rw [List.length_take, HOL.out]; omega
   have HOJ : Hid (O.take (j + 1) = O.take j ++ [m.s]) := by unfold Hid; rw [List.take_add_one, ho]; rfl
   clear hi hx ho
   go_wp2_with (at_builtin; refine wpList_append_own_at _ rfl _ _ 24 rfl (w.heap.size + 2) 3 t0 (.int .i64 0) 1 8 under45 HI0.out.1 HI0.out.2.1 HI0.out.2.2.1 HI0.out.2.2.2 rfl (by decide) _ _ _ rfl (row_kept HI.out (fun _ hq => heap_alloc_old _ _ hq)) ⟨wr.heap.size, 0, none⟩ 1 1 [.int .i64 m.s] rfl rfl (cell_one_new _ _ _) (ones [m.s]) (by rw [HLN.out]; unfold maxLen; omega) (by rw [HLN.out]; omega) (by simp; omega) ?_; intro v1 w1 hown hgrow hnil hat)
   have hrow : ∀ q, u6.ownBlock = some q → w.heap.size + 2 ≤ q := fun q hq => (HI.out.lt q hq).1
   have HI1 : Hid (Is' w1 (w.heap.size + 2) v1 (O.take (j + 1))) := by
    unfold Hid Is'
    rw [HOJ.out, List.map_append, List.length_append]
    exact hown
   have HX1 : Hid (∀ t, t < 3 → w1.cell? ⟨w.heap.size + 1, t, none⟩ = some (.int .i64 (opn n t))) := fun t ht => cell_grown hgrow hrow (by show w.heap.size + 1 < w.heap.size + 2; omega) (HX.out t ht)
   have hb1 : Below w.heap.size w w1 := low_grown hbl (by omega) hgrow (fun q hq => by have := hrow q hq; omega)
   have hs1 : w.heap.size + 2 ≤ w1.heap.size := by have := hgrow.size; simp at this; omega
   clear hown hgrow hnil hat hrow HX HI
   go_wp2_with fail
   exact ⟨⟨j + 1, by omega, by go_num, HI1.out, HX1.out, hs1, hb1⟩, by simp [intOf]; omega⟩
  ·obtain rfl : j = 2 := by omega
   have HT : Hid (O.take 2 = O) := by unfold Hid; rw [← HOL.out, List.take_length]
   have HF : Hid (Is' wr w.heap.size u6 O) := by have h := HI.out; rw [HT.out] at h; exact own_mono h (by omega)
   clear HI HX HP
   go_wp2_with fail
   go_ret
   exact ⟨_, rfl, HF.out, hbl⟩
theorem osr_3 {w : World} {B g mi mv mo : Nat} {v : Value} {ns : List Nd} (h : Gr w B g mi mv v mo ns) {n : Nd} (hk : ari n.op = 3) (hp : prt ns.length n = true) :
  Calls Tryz.prog 94 #[.pointer (some ⟨g, 0, none⟩), .agg #[.int .i64 n.op, .int .i64 n.s, .int .i64 n.a, .int .i64 n.b, .int .i64 n.c, .int .i64 n.p, .int .i64 n.q, .int .i64 n.w, .int .u64 n.lo, .int .u64 n.hi, .string n.nm]] w fun e w' => ∃ u, e = .returned u ∧ Is' w' w.heap.size u (oss ns n) ∧ Below w.heap.size w w' := by
 have HA : Hid (∀ wx, Calls Tryz.prog 61 #[.int .i64 n.op] wx fun e w' => e = .returned (.int .i64 3) ∧ w' = wx) := fun wx => by rw [← hk]; exact arity_any _ wx
 have HP : Hid (∀ j, j < 3 → ∃ (i : Nat) (m : Nd), ns[i]? = some m ∧ opn n j = (i : Int) + 1 ∧ (oss ns n)[j]? = some m.s) := fun j hj => opn_node (k := 3) hk (by omega) hp j hj
 have hol : (oss ns n).length = 3 := oss_len (k := 3) hk (by omega)
 obtain ⟨O, hO⟩ : ∃ O, O = oss ns n := ⟨_, rfl⟩
 rw [← hO] at HP hol ⊢
 have HOL : Hid _ := hol
 have hlen := h.len
 have c1 := h.c1
 have hg := h.lt
 obtain ⟨r, cap, rfl, hBr, hrl, hc⟩ := row_all h.row (by obtain ⟨i, m, hi, -⟩ := HP.out 0 (by omega); have := (List.getElem?_eq_some_iff.1 hi).1; omega)
 have HC : Hid _ := hc
 have HC1 : Hid _ := c1
 obtain ⟨t0, ht0, hz0, hz1, hz2⟩ := info_parts info3
 have HI0 : Hid (Tryz.prog.info? 3 = some t0 ∧ t0.zero = some (.int .i64 0) ∧ t0.size = 1 ∧ t0.bytes = 8) := ⟨ht0, hz0, hz1, hz2⟩
 have HNS : Hid (∀ (i : Nat) (m : Nd), ns[i]? = some m → i < ns.length) := fun i m hi => (List.getElem?_eq_some_iff.1 hi).1
 obtain ⟨N, hN⟩ : ∃ N, N = ns.length := ⟨_, rfl⟩
 rw [← hN] at HC1 HNS hlen
 clear h hc c1 hk hp hol hO ht0 hz0 hz1 hz2 hBr hN
 go_enter Tryz.func94, Tryz.ntmps94
 go_wp2_with fail
 refine (HA.out _).mono ?_
 rintro e wz ⟨rfl, rfl⟩
 go_wp2_with fail
 go_loopw [6, 21] (fun v i wr => ∃ j : Nat, j ≤ 3 ∧ i = .int .i64 (j : Int) ∧ Is' wr (w.heap.size + 2) v (O.take j) ∧ (∀ t, t < 3 → wr.cell? ⟨w.heap.size + 1, t, none⟩ = some (.int .i64 (opn n t))) ∧ w.heap.size + 2 ≤ wr.heap.size ∧ Below w.heap.size w wr) (fun v i wr => 3 - (intOf i).toNat)
 case atStart =>
  refine ⟨0, by omega, rfl, World.ownsRow_nil _ _ _ _, ?_, by simp, by go_grown⟩
  intro t ht
  have : t = 0 ∨ t = 1 ∨ t = 2 := by omega
  rcases this with rfl | rfl | rfl <;> simp [go_sem, opn]
 case round =>
  obtain ⟨j, hj, rfl, hI, ha, hws, hbl⟩ := hrel
  have HI : Hid _ := hI
  have HX : Hid _ := ha
  clear hI ha
  by_cases hlt : j < 3
  ·obtain ⟨i, m, hi, hx, ho⟩ := HP.out j hlt
   have hin := HNS.out i m hi
   have c1 : wr.cell? ⟨g, 1, none⟩ = some (.slice (some ⟨r, 0, none⟩) N cap) := bel_cell hbl hg HC1.out
   have d1 : wr.cell? ⟨r, i * 11 + 1, none⟩ = some (.int .i64 m.s) := bel_cell hbl hrl (HC.out i m hi 1 _ rfl)
   have xj : wr.cell? ⟨w.heap.size + 1, j, none⟩ = some (.int .i64 ((i : Int) + 1)) := by rw [← hx]; exact HX.out j (by omega)
   have e0 := wrap_small (i := i) (by omega)
   have b0 : (i : Int) < (N : Int) := Int.ofNat_lt.2 hin
   have HLN : Hid ((O.take j).length = j) := by unfold Hid; rw [List.length_take, HOL.out]; omega
   have HOJ : Hid (O.take (j + 1) = O.take j ++ [m.s]) := by unfold Hid; rw [List.take_add_one, ho]; rfl
   clear hi hx ho
   go_wp2_with (at_builtin; refine wpList_append_own_at _ rfl _ _ 24 rfl (w.heap.size + 2) 3 t0 (.int .i64 0) 1 8 under45 HI0.out.1 HI0.out.2.1 HI0.out.2.2.1 HI0.out.2.2.2 rfl (by decide) _ _ _ rfl (row_kept HI.out (fun _ hq => heap_alloc_old _ _ hq)) ⟨wr.heap.size, 0, none⟩ 1 1 [.int .i64 m.s] rfl rfl (cell_one_new _ _ _) (ones [m.s]) (by rw [HLN.out]; unfold maxLen; omega) (by rw [HLN.out]; omega) (by simp; omega) ?_; intro v1 w1 hown hgrow hnil hat)
   have hrow : ∀ q, u6.ownBlock = some q → w.heap.size + 2 ≤ q := fun q hq => (HI.out.lt q hq).1
   have HI1 : Hid (Is' w1 (w.heap.size + 2) v1 (O.take (j + 1))) := by
    unfold Hid Is'
    rw [HOJ.out, List.map_append, List.length_append]
    exact hown
   have HX1 : Hid (∀ t, t < 3 → w1.cell? ⟨w.heap.size + 1, t, none⟩ = some (.int .i64 (opn n t))) := fun t ht => cell_grown hgrow hrow (by show w.heap.size + 1 < w.heap.size + 2; omega) (HX.out t ht)
   have hb1 : Below w.heap.size w w1 := low_grown hbl (by omega) hgrow (fun q hq => by have := hrow q hq; omega)
   have hs1 : w.heap.size + 2 ≤ w1.heap.size := by have := hgrow.size; simp at this; omega
   clear hown hgrow hnil hat hrow HX HI
   go_wp2_with fail
   exact ⟨⟨j + 1, by omega, by go_num, HI1.out, HX1.out, hs1, hb1⟩, by simp [intOf]; omega⟩
  ·obtain rfl : j = 3 := by omega
   have HT : Hid (O.take 3 = O) := by unfold Hid; rw [← HOL.out, List.take_length]
   have HF : Hid (Is' wr w.heap.size u6 O) := by have h := HI.out; rw [HT.out] at h; exact own_mono h (by omega)
   clear HI HX HP
   go_wp2_with fail
   go_ret
   exact ⟨_, rfl, HF.out, hbl⟩
theorem osr_any {w : World} {B g mi mv mo : Nat} {v : Value} {ns : List Nd} (h : Gr w B g mi mv v mo ns) {n : Nd} (hp : prt ns.length n = true) :
  Calls Tryz.prog 94 #[.pointer (some ⟨g, 0, none⟩), .agg #[.int .i64 n.op, .int .i64 n.s, .int .i64 n.a, .int .i64 n.b, .int .i64 n.c, .int .i64 n.p, .int .i64 n.q, .int .i64 n.w, .int .u64 n.lo, .int .u64 n.hi, .string n.nm]] w fun e w' => ∃ u, e = .returned u ∧ Is' w' w.heap.size u (oss ns n) ∧ Below w.heap.size w w' := by
 by_cases h0 : ari n.op < 0
 ·rw [prt_ari h0] at hp
  cases hp
 ·have h3 := ari_le n.op
  have hx : ari n.op = 0 ∨ ari n.op = 1 ∨ ari n.op = 2 ∨ ari n.op = 3 := by omega
  rcases hx with hx | hx | hx | hx
  ·exact osr_0 h hx hp
  ·exact osr_1 h hx hp
  ·exact osr_2 h hx hp
  ·exact osr_3 h hx hp
end Go.Proofs.YtejljdbkocnhlaaGreat
