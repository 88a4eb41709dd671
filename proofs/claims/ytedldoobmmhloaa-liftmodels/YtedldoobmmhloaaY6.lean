import Derived.Test.YtedldoobmmhloaaMg9
import Derived.Deep.QuietTactic
import Derived.BigQuiet
namespace Go.Proofs.Ytedldoobmmhloaa
set_option maxHeartbeats 12800000
set_option maxRecDepth 100000
open Go.RowKit
set_option linter.unusedSimpArgs false
set_option linter.unusedVariables false
def cstS (n : Nd) : Int × Int := if rgt n.w n.lo n.hi && decide (n.w = n.s) && decide (n.p = 0) && decide (n.q = 0) then (n.s, 0) else (0, 30)
structure Fi (n : Nd) : Prop where
 l0 : 0 ≤ n.lo
 l1 : n.lo < 18446744073709551616
 h0 : 0 ≤ n.hi
 h1 : n.hi < 18446744073709551616
 nm : n.nm.size ≤ maxLen
theorem cst_any {n : Nd} (hf : Fi n) (w : World) :
  Calls Try.prog 36 #[.agg #[.int .i64 n.op, .int .i64 n.s, .int .i64 n.a, .int .i64 n.b, .int .i64 n.c, .int .i64 n.p, .int .i64 n.q, .int .i64 n.w, .int .u64 n.lo, .int .u64 n.hi, .string n.nm]] w fun e w' => e = .returned (.tuple #[.int .i64 (cstS n).1, .int .i64 (cstS n).2]) ∧ Below w.heap.size w w' := by
 obtain ⟨r, hr⟩ : ∃ r, r = rgt n.w n.lo n.hi := ⟨_, rfl⟩
 have HA : Hid (∀ wx, Calls Try.prog 22 #[.agg #[.int .i64 n.w, .int .u64 n.lo, .int .u64 n.hi]] wx fun e w' => e = .returned (.bool r) ∧ Below wx.heap.size wx w') := fun wx => by rw [hr]; exact right_all hf.l0 hf.l1 hf.h0 hf.h1 wx
 have e0 : cstS n = if r && decide (n.w = n.s) && decide (n.p = 0) && decide (n.q = 0) then (n.s, 0) else (0, 30) := by unfold cstS; rw [hr]
 rw [e0]
 clear hf hr e0
 obtain ⟨E, hE⟩ : ∃ E : Int × Int, E = (if r && decide (n.w = n.s) && decide (n.p = 0) && decide (n.q = 0) then (n.s, 0) else (0, 30)) := ⟨_, rfl⟩
 rw [← hE]
 have HE : Hid _ := hE
 clear hE
 cases r
 ·skip
  go_enter Try.func36, Try.ntmps36
  go_wp2_with fail
  refine (HA.out _).mono ?_
  rintro e wz ⟨rfl, hb⟩
  have c1 : wz.cell? ⟨w.heap.size, 1, none⟩ = some (.int .i64 n.s) := by rw [hb.cell (p := ⟨w.heap.size, 1, none⟩) (by simp)]; simp
  have c5 : wz.cell? ⟨w.heap.size, 5, none⟩ = some (.int .i64 n.p) := by rw [hb.cell (p := ⟨w.heap.size, 5, none⟩) (by simp)]; simp
  have c6 : wz.cell? ⟨w.heap.size, 6, none⟩ = some (.int .i64 n.q) := by rw [hb.cell (p := ⟨w.heap.size, 6, none⟩) (by simp)]; simp
  have c7 : wz.cell? ⟨w.heap.size, 7, none⟩ = some (.int .i64 n.w) := by rw [hb.cell (p := ⟨w.heap.size, 7, none⟩) (by simp)]; simp
  have hB : Below w.heap.size w wz := Below.trans (by go_grown) (hb.mono (by simp))
  clear hb
  go_wp2_with fail
  refine bodyPost_ret (v := .tuple #[.int .i64 0, .int .i64 30]) (by simp [results, Try.results36, go_sem]) rfl ?_
  exact ⟨by rw [HE.out]; simp [go_sem], hB⟩
 ·by_cases h1 : n.w = n.s
  rotate_left 1
  ·skip
   have z1 : (n.w == n.s) = false := by simp [h1]
   have y1 : (n.w != n.s) = true := by simp [h1]
   have H1 : Hid _ := h1
   clear h1
   go_enter Try.func36, Try.ntmps36
   go_wp2_with fail
   refine (HA.out _).mono ?_
   rintro e wz ⟨rfl, hb⟩
   have c1 : wz.cell? ⟨w.heap.size, 1, none⟩ = some (.int .i64 n.s) := by rw [hb.cell (p := ⟨w.heap.size, 1, none⟩) (by simp)]; simp
   have c5 : wz.cell? ⟨w.heap.size, 5, none⟩ = some (.int .i64 n.p) := by rw [hb.cell (p := ⟨w.heap.size, 5, none⟩) (by simp)]; simp
   have c6 : wz.cell? ⟨w.heap.size, 6, none⟩ = some (.int .i64 n.q) := by rw [hb.cell (p := ⟨w.heap.size, 6, none⟩) (by simp)]; simp
   have c7 : wz.cell? ⟨w.heap.size, 7, none⟩ = some (.int .i64 n.w) := by rw [hb.cell (p := ⟨w.heap.size, 7, none⟩) (by simp)]; simp
   have hB : Below w.heap.size w wz := Below.trans (by go_grown) (hb.mono (by simp))
   clear hb
   go_wp2_with fail
   refine bodyPost_ret (v := .tuple #[.int .i64 0, .int .i64 30]) (by simp [results, Try.results36, go_sem]) rfl ?_
   exact ⟨by rw [HE.out]; simp [show ¬ n.w = n.s from H1.out], hB⟩
  have z1 : (n.w == n.s) = true := by simp [h1]
  have y1 : (n.w != n.s) = false := by simp [h1]
  have H1 : Hid _ := h1
  clear h1
  by_cases h2 : n.p = 0
  rotate_left 1
  ·skip
   have z2 : (n.p == 0) = false := by simp [h2]
   have y2 : (n.p != 0) = true := by simp [h2]
   have H2 : Hid _ := h2
   clear h2
   go_enter Try.func36, Try.ntmps36
   go_wp2_with fail
   refine (HA.out _).mono ?_
   rintro e wz ⟨rfl, hb⟩
   have c1 : wz.cell? ⟨w.heap.size, 1, none⟩ = some (.int .i64 n.s) := by rw [hb.cell (p := ⟨w.heap.size, 1, none⟩) (by simp)]; simp
   have c5 : wz.cell? ⟨w.heap.size, 5, none⟩ = some (.int .i64 n.p) := by rw [hb.cell (p := ⟨w.heap.size, 5, none⟩) (by simp)]; simp
   have c6 : wz.cell? ⟨w.heap.size, 6, none⟩ = some (.int .i64 n.q) := by rw [hb.cell (p := ⟨w.heap.size, 6, none⟩) (by simp)]; simp
   have c7 : wz.cell? ⟨w.heap.size, 7, none⟩ = some (.int .i64 n.w) := by rw [hb.cell (p := ⟨w.heap.size, 7, none⟩) (by simp)]; simp
   have hB : Below w.heap.size w wz := Below.trans (by go_grown) (hb.mono (by simp))
   clear hb
   go_wp2_with fail
   refine bodyPost_ret (v := .tuple #[.int .i64 0, .int .i64 30]) (by simp [results, Try.results36, go_sem]) rfl ?_
   exact ⟨by rw [HE.out]; simp [show ¬ n.p = 0 from H2.out], hB⟩
  have z2 : (n.p == 0) = true := by simp [h2]
  have y2 : (n.p != 0) = false := by simp [h2]
  have H2 : Hid _ := h2
  clear h2
  by_cases h3 : n.q = 0
  rotate_left 1
  ·skip
   have z3 : (n.q == 0) = false := by simp [h3]
   have y3 : (n.q != 0) = true := by simp [h3]
   have H3 : Hid _ := h3
   clear h3
   go_enter Try.func36, Try.ntmps36
   go_wp2_with fail
   refine (HA.out _).mono ?_
   rintro e wz ⟨rfl, hb⟩
   have c1 : wz.cell? ⟨w.heap.size, 1, none⟩ = some (.int .i64 n.s) := by rw [hb.cell (p := ⟨w.heap.size, 1, none⟩) (by simp)]; simp
   have c5 : wz.cell? ⟨w.heap.size, 5, none⟩ = some (.int .i64 n.p) := by rw [hb.cell (p := ⟨w.heap.size, 5, none⟩) (by simp)]; simp
   have c6 : wz.cell? ⟨w.heap.size, 6, none⟩ = some (.int .i64 n.q) := by rw [hb.cell (p := ⟨w.heap.size, 6, none⟩) (by simp)]; simp
   have c7 : wz.cell? ⟨w.heap.size, 7, none⟩ = some (.int .i64 n.w) := by rw [hb.cell (p := ⟨w.heap.size, 7, none⟩) (by simp)]; simp
   have hB : Below w.heap.size w wz := Below.trans (by go_grown) (hb.mono (by simp))
   clear hb
   go_wp2_with fail
   refine bodyPost_ret (v := .tuple #[.int .i64 0, .int .i64 30]) (by simp [results, Try.results36, go_sem]) rfl ?_
   exact ⟨by rw [HE.out]; simp [show ¬ n.q = 0 from H3.out], hB⟩
  have z3 : (n.q == 0) = true := by simp [h3]
  have y3 : (n.q != 0) = false := by simp [h3]
  have H3 : Hid _ := h3
  clear h3
  go_enter Try.func36, Try.ntmps36
  go_wp2_with fail
  refine (HA.out _).mono ?_
  rintro e wz ⟨rfl, hb⟩
  have c1 : wz.cell? ⟨w.heap.size, 1, none⟩ = some (.int .i64 n.s) := by rw [hb.cell (p := ⟨w.heap.size, 1, none⟩) (by simp)]; simp
  have c5 : wz.cell? ⟨w.heap.size, 5, none⟩ = some (.int .i64 n.p) := by rw [hb.cell (p := ⟨w.heap.size, 5, none⟩) (by simp)]; simp
  have c6 : wz.cell? ⟨w.heap.size, 6, none⟩ = some (.int .i64 n.q) := by rw [hb.cell (p := ⟨w.heap.size, 6, none⟩) (by simp)]; simp
  have c7 : wz.cell? ⟨w.heap.size, 7, none⟩ = some (.int .i64 n.w) := by rw [hb.cell (p := ⟨w.heap.size, 7, none⟩) (by simp)]; simp
  have hB : Below w.heap.size w wz := Below.trans (by go_grown) (hb.mono (by simp))
  clear hb
  go_wp2_with fail
  refine bodyPost_ret (v := .tuple #[.int .i64 n.s, .int .i64 0]) (by simp [results, Try.results36, go_sem]) rfl ?_
  exact ⟨by rw [HE.out]; simp [H1.out, H2.out, H3.out], hB⟩
theorem bel_cell {w x : World} {g j : Nat} {v : Value} (hb : Below w.heap.size w x) (hg : g < w.heap.size) (h : w.cell? ⟨g, j, none⟩ = some v) : x.cell? ⟨g, j, none⟩ = some v := by
 rw [hb.cell (p := ⟨g, j, none⟩) hg]; exact h
theorem Mp.no {w : World} {k e t : TypeId} {b : Nat} {L : List (Value × Value)} (h : Mp w k b L) (K : WideMaps.KeyLaw Try.prog k) (ht : Try.prog.underlying t = some (.map k e)) {z : Value} (hz : (zeroValue e).run Try.prog w = .ok z w)
  {key : Value} {kl : Lit} (hkey : keyOf Try.prog k key = some kl) (hn : ∀ p ∈ L, p.1 ≠ key) : (Instr.lookup t (.map (some b)) key true).run Try.prog w = .ok (.tuple #[z, .bool false]) w := by
 rcases h.look K ht hz hkey with ⟨hr, _⟩ | ⟨p, hp, he, _⟩
 ·exact hr
 ·exact absurd he (hn p hp)
theorem Mp.yes {w : World} {k e t : TypeId} {b : Nat} {L : List (Value × Value)} (h : Mp w k b L) (K : WideMaps.KeyLaw Try.prog k) (ht : Try.prog.underlying t = some (.map k e)) {z : Value} (hz : (zeroValue e).run Try.prog w = .ok z w)
  {key x : Value} {kl : Lit} (hkey : keyOf Try.prog k key = some kl) (hin : (key, x) ∈ L) (hu : ∀ p ∈ L, p.1 = key → p.2 = x) : (Instr.lookup t (.map (some b)) key true).run Try.prog w = .ok (.tuple #[x, .bool true]) w := by
 rcases h.look K ht hz hkey with ⟨_, hn⟩ | ⟨p, hp, he, hr⟩
 ·exact absurd rfl (hn _ hin)
 ·rw [hr, hu p hp he]
theorem idL_uniq {ns : List Nd} (hv : Inv ns) {i : Nat} {n : Nd} (h : ns[i]? = some n) : ∀ p ∈ idL ns, p.1 = n.val → p.2 = .int .i64 ((i : Int) + 1) := by
 intro p hp he
 obtain ⟨j, m, hj, rfl⟩ := mem_idL hp
 have := Nd.val_inj he
 subst this
 obtain ⟨h1, e1⟩ := List.getElem?_eq_some_iff.1 h
 obtain ⟨h2, e2⟩ := List.getElem?_eq_some_iff.1 hj
 by_cases hij : i = j
 ·subst hij; rfl
 ·rcases Nat.lt_or_gt_of_ne hij with hl | hl
  ·exact absurd (e1.trans e2.symm) (List.pairwise_iff_getElem.1 hv.once i j h1 h2 hl)
  ·exact absurd (e2.trans e1.symm) (List.pairwise_iff_getElem.1 hv.once j i h2 h1 hl)
theorem varL_uniq {ns : List Nd} (hv : Inv ns) {i : Nat} {n : Nd} (h : ns[i]? = some n) (h2 : n.op = 2) : ∀ p ∈ varL ns, p.1 = .string n.nm → p.2 = .int .i64 ((i : Int) + 1) := by
 intro p hp he
 obtain ⟨j, m, hj, hm2, rfl⟩ := mem_varL hp
 have e : m.nm = n.nm := by simpa using he
 have := hv.names m (List.mem_of_getElem? hj) n (List.mem_of_getElem? h) hm2 h2 e
 subst this
 exact idL_uniq hv h (m.val, .int .i64 ((j : Int) + 1)) (in_idL hj) rfl
def varS (ns : List Nd) (n : Nd) : Int × Int := if srt n.s && decide (n.p = 0) && decide (n.q = 0) then (if n.nm.size == 0 || clash ns n then (0, 34) else (n.s, 0)) else (0, 30)
theorem clash_none {ns : List Nd} {n : Nd} (h : ∀ m ∈ ns, m.op = 2 → m.nm ≠ n.nm) : clash ns n = false := by
 unfold clash
 rw [List.any_eq_false]
 intro m hm
 by_cases h2 : m.op = 2 <;> simp [h2]
 intro e
 exact absurd e (h m hm h2)
theorem clash_some {ns : List Nd} (hv : Inv ns) {n m : Nd} (hm : m ∈ ns) (h2 : m.op = 2) (hn : m.nm = n.nm) : clash ns n = !decide (m.s = n.s) := by
 unfold clash
 by_cases e : m.s = n.s
 ·rw [show (!decide (m.s = n.s)) = false by simp [e], List.any_eq_false]
  intro x hx
  by_cases hx2 : x.op = 2 <;> simp [hx2]
  intro ex
  rw [hv.names x hx m hm hx2 h2 (by rw [ex, hn])]
  exact e
 ·rw [show (!decide (m.s = n.s)) = true by simp [e], List.any_eq_true]
  exact ⟨m, hm, by simp [h2, hn, e]⟩
theorem vrs_any {w : World} {B g mi mv mo : Nat} {v : Value} {ns : List Nd} (h : Gr w B g mi mv v mo ns) {n : Nd} (hf : Fi n) :
  Calls Try.prog 37 #[.pointer (some ⟨g, 0, none⟩), .agg #[.int .i64 n.op, .int .i64 n.s, .int .i64 n.a, .int .i64 n.b, .int .i64 n.c, .int .i64 n.p, .int .i64 n.q, .int .i64 n.w, .int .u64 n.lo, .int .u64 n.hi, .string n.nm]] w fun e w' => e = .returned (.tuple #[.int .i64 (varS ns n).1, .int .i64 (varS ns n).2]) ∧ Below w.heap.size w w' := by
 obtain ⟨r, hr⟩ : ∃ r, r = srt n.s := ⟨_, rfl⟩
 have HA : Hid (∀ wx, Calls Try.prog 45 #[.int .i64 n.s] wx fun e w' => e = .returned (.bool r) ∧ w' = wx) := fun wx => by rw [hr]; exact isSort_any _ wx
 obtain ⟨E, hE⟩ : ∃ E, E = varS ns n := ⟨_, rfl⟩
 rw [← hE]
 have HE : Hid (E = if r && decide (n.p = 0) && decide (n.q = 0) then (if n.nm.size == 0 || clash ns n then (0, 34) else (n.s, 0)) else (0, 30)) := by rw [hE, hr]; rfl
 clear hr hE
 have hem := emp_eq n.nm
 cases r
 ·skip
  go_enter Try.func37, Try.ntmps37
  go_wp2_with fail
  refine (HA.out _).mono ?_
  rintro e wz ⟨rfl, rfl⟩
  go_wp2_with fail
  refine bodyPost_ret (v := .tuple #[.int .i64 0, .int .i64 30]) (by simp [results, Try.results37, go_sem]) rfl ?_
  exact ⟨by rw [HE.out]; simp [go_sem], by go_grown⟩
 ·by_cases h2 : n.p = 0
  rotate_left 1
  ·skip
   have z2 : (n.p == 0) = false := by simp [h2]
   have y2 : (n.p != 0) = true := by simp [h2]
   have H2 : Hid _ := h2
   clear h2
   go_enter Try.func37, Try.ntmps37
   go_wp2_with fail
   refine (HA.out _).mono ?_
   rintro e wz ⟨rfl, rfl⟩
   go_wp2_with fail
   refine bodyPost_ret (v := .tuple #[.int .i64 0, .int .i64 30]) (by simp [results, Try.results37, go_sem]) rfl ?_
   exact ⟨by rw [HE.out]; simp [show ¬ n.p = 0 from H2.out], by go_grown⟩
  have z2 : (n.p == 0) = true := by simp [h2]
  have y2 : (n.p != 0) = false := by simp [h2]
  have H2 : Hid _ := h2
  clear h2
  by_cases h3 : n.q = 0
  rotate_left 1
  ·skip
   have z3 : (n.q == 0) = false := by simp [h3]
   have y3 : (n.q != 0) = true := by simp [h3]
   have H3 : Hid _ := h3
   clear h3
   go_enter Try.func37, Try.ntmps37
   go_wp2_with fail
   refine (HA.out _).mono ?_
   rintro e wz ⟨rfl, rfl⟩
   go_wp2_with fail
   refine bodyPost_ret (v := .tuple #[.int .i64 0, .int .i64 30]) (by simp [results, Try.results37, go_sem]) rfl ?_
   exact ⟨by rw [HE.out]; simp [show ¬ n.q = 0 from H3.out], by go_grown⟩
  have z3 : (n.q == 0) = true := by simp [h3]
  have y3 : (n.q != 0) = false := by simp [h3]
  have H3 : Hid _ := h3
  clear h3
  cases hs : n.nm.size == 0
  rotate_left 1
  ·have HS : Hid _ := hs
   rw [hs] at hem
   clear hs
   go_enter Try.func37, Try.ntmps37
   go_wp2_with fail
   refine (HA.out _).mono ?_
   rintro e wz ⟨rfl, rfl⟩
   go_wp2_with fail
   refine bodyPost_ret (v := .tuple #[.int .i64 0, .int .i64 34]) (by simp [results, Try.results37, go_sem]) rfl ?_
   exact ⟨by rw [HE.out]; simp [H2.out, H3.out, HS.out], by go_grown⟩
  have HS : Hid _ := hs
  rw [hs] at hem
  clear hs
  have HG : Hid _ := h
  have c3 := h.c3
  have c1 := h.c1
  have hg := h.lt
  have hlen := h.len
  have hcl : Hid (((∀ m ∈ ns, m.op = 2 → m.nm ≠ n.nm) ∧ clash ns n = false) ∨ ∃ (i : Nat) (m : Nd), ns[i]? = some m ∧ m.op = 2 ∧ m.nm = n.nm ∧ clash ns n = !decide (m.s = n.s)) := by
   by_cases hx : ∃ m ∈ ns, m.op = 2 ∧ m.nm = n.nm
   ·obtain ⟨m, hm, h2, hn⟩ := hx
    obtain ⟨i, hi, em⟩ := List.getElem_of_mem hm
    exact Or.inr ⟨i, m, by rw [List.getElem?_eq_getElem hi, em], h2, hn, clash_some h.inv hm h2 hn⟩
   ·have hx' : ∀ m ∈ ns, m.op = 2 → m.nm ≠ n.nm := fun m hm h2 hn => hx ⟨m, hm, h2, hn⟩
    exact Or.inl ⟨hx', clash_none hx'⟩
  have hk := strKey hf.nm
  rcases hcl.out with ⟨hno, hcf⟩ | ⟨i, m, hi, hm2, hmn, hcf⟩
  ·have HL : Hid (∀ x, Below w.heap.size w x → (Instr.lookup 56 (.map (some mv)) (.string n.nm) true).run Try.prog x = .ok (.tuple #[.int .i64 0, .bool false]) x) := fun x hb => (h.below hb).vars.no strLaw varsUnder (zeroInt x) hk (fun p hp e => by
    obtain ⟨j, q, hj, hq2, rfl⟩ := mem_varL hp
    exact hno q (List.mem_of_getElem? hj) hq2 (by simpa using e))
   have HC : Hid _ := hcf
   clear h hf hk hno hcf hcl
   go_enter Try.func37, Try.ntmps37
   go_wp2_with fail
   refine (HA.out _).mono ?_
   rintro e wz ⟨rfl, rfl⟩
   go_wp2_with fail
   go_region_held3 (fun x => x.cell? ⟨g, 3, none⟩ = some (.map (some mv)) ∧ x.cell? ⟨w.heap.size, 10, none⟩ = some (.string n.nm) ∧ (Instr.lookup 56 (.map (some mv)) (.string n.nm) true).run Try.prog x = .ok (.tuple #[.int .i64 0, .bool false]) x)
    (exact ⟨bel_cell (by go_grown) hg c3, by simp [go_sem], HL.out _ (by go_grown)⟩)
    (fail)
   go_wp2_with fail
   go_quiet (fail)
   go_wp2_with fail
   refine bodyPost_ret (v := .tuple #[.int .i64 n.s, .int .i64 0]) (by simp [results, Try.results37, go_sem]) rfl ?_
   exact ⟨by rw [HE.out]; simp [H2.out, H3.out, HS.out, HC.out], below_drewN (by go_grown) _⟩
  ·obtain ⟨rr, cap, rfl, hBr, ⟨cur, hr⟩, hc⟩ := row_at (mo := mo) h.row hi
   have hrl : rr < w.heap.size := (Array.getElem?_eq_some_iff.1 hr).1
   have hlt : i < ns.length := (List.getElem?_eq_some_iff.1 hi).1
   have d1 := hc 1 _ rfl
   have HL : Hid (∀ x, Below w.heap.size w x → (Instr.lookup 56 (.map (some mv)) (.string n.nm) true).run Try.prog x = .ok (.tuple #[.int .i64 ((i : Int) + 1), .bool true]) x) := fun x hb => by
    rw [← hmn] at hk ⊢
    exact (h.below hb).vars.yes strLaw varsUnder (zeroInt x) hk (in_varL hi hm2) (varL_uniq h.inv hi hm2)
   have HC : Hid _ := hcf
   have e1 : wrap64 (i : Int) = i := by unfold wrap64; omega
   have b1 : (i : Int) < (ns.length : Int) := by omega
   clear h hf hk hcf hcl hc hr hi hm2 hmn
   obtain ⟨N, hN⟩ : ∃ N, N = ns.length := ⟨_, rfl⟩
   rw [← hN] at c1 b1 hlt
   clear hN hlen
   by_cases h4 : m.s = n.s
   ·have z4 : (m.s == n.s) = true := by simp [h4]
    have y4 : (m.s != n.s) = false := by simp [h4]
    have H4 : Hid _ := h4
    clear h4
    go_enter Try.func37, Try.ntmps37
    go_wp2_with fail
    refine (HA.out _).mono ?_
    rintro e wz ⟨rfl, rfl⟩
    go_wp2_with fail
    go_region_held3 (fun x => x.cell? ⟨g, 3, none⟩ = some (.map (some mv)) ∧ x.cell? ⟨w.heap.size, 10, none⟩ = some (.string n.nm) ∧ (Instr.lookup 56 (.map (some mv)) (.string n.nm) true).run Try.prog x = .ok (.tuple #[.int .i64 ((i : Int) + 1), .bool true]) x)
     (exact ⟨bel_cell (by go_grown) hg c3, by simp [go_sem], HL.out _ (by go_grown)⟩)
     (fail)
    go_wp2_with fail
    go_quiet (fail)
    go_wp2_with fail
    refine bodyPost_ret (v := .tuple #[.int .i64 n.s, .int .i64 0]) (by simp [results, Try.results37, go_sem]) rfl ?_
    exact ⟨by rw [HE.out]; simp [H2.out, H3.out, HS.out, HC.out, H4.out], below_drewN (by go_grown) _⟩
   ·have z4 : (m.s == n.s) = false := by simp [h4]
    have y4 : (m.s != n.s) = true := by simp [h4]
    have H4 : Hid _ := h4
    clear h4
    go_enter Try.func37, Try.ntmps37
    go_wp2_with fail
    refine (HA.out _).mono ?_
    rintro e wz ⟨rfl, rfl⟩
    go_wp2_with fail
    go_region_held3 (fun x => x.cell? ⟨g, 3, none⟩ = some (.map (some mv)) ∧ x.cell? ⟨w.heap.size, 10, none⟩ = some (.string n.nm) ∧ (Instr.lookup 56 (.map (some mv)) (.string n.nm) true).run Try.prog x = .ok (.tuple #[.int .i64 ((i : Int) + 1), .bool true]) x)
     (exact ⟨bel_cell (by go_grown) hg c3, by simp [go_sem], HL.out _ (by go_grown)⟩)
     (fail)
    go_wp2_with fail
    go_quiet (fail)
    go_wp2_with fail
    refine bodyPost_ret (v := .tuple #[.int .i64 0, .int .i64 34]) (by simp [results, Try.results37, go_sem]) rfl ?_
    exact ⟨by rw [HE.out]; simp [H2.out, H3.out, HS.out, HC.out, show ¬ m.s = n.s from H4.out], below_drewN (by go_grown) _⟩
end Go.Proofs.Ytedldoobmmhloaa
