/- Contracts (the document's and-inverter graphs): Values. -/
import Derived.Test.YtdmochghcmeebaaBH4
import Derived.Test.YtdmochghcmeebaaAG15
namespace Go.Proofs.Ytdmochghcmeebaa
open Go.RowKit
set_option linter.unusedSimpArgs false
set_option linter.unusedVariables false

theorem insL_nodup (ks : List Kd) : ∀ n, n ≤ ks.length → (insL (ks.take n)).Nodup
  | 0, _ => by simp [insL]
  | n + 1, h => by
    have ih := insL_nodup ks n (by omega)
    rw [List.take_add_one, List.getElem?_eq_getElem (by omega), Option.toList_some, insL_snoc]
    split
    · rw [List.nodup_append]
      refine ⟨ih, List.nodup_cons.2 ⟨by simp, List.nodup_nil⟩, fun x hx y hy e => ?_⟩
      rw [List.mem_singleton] at hy
      obtain ⟨i, hi, _, rfl⟩ := mem_insL.1 hx
      have := (List.getElem?_eq_some_iff.1 hi).1
      omega
    · rw [List.append_nil]; exact ih
theorem sI_at {ins : List Int} {il : List Bool} {n k : Nat} (hk : ins[k]? = some (2 * (n : Int))) (hu : ins.Nodup) : ∀ t, k < t → t ≤ ins.length → sI ins il t n = il.getD k false
  | 0, h, _ => by omega
  | t + 1, h, ht => by
    show (if 2 * (n : Int) = ins.getD t 0 then il.getD t false else sI ins il t n) = _
    have hg : ins.getD t 0 = ins[t] := by rw [List.getD_eq_getElem?_getD, List.getElem?_eq_getElem (by omega)]; rfl
    by_cases e : t = k
    · subst e
      rw [List.getElem?_eq_getElem (by omega)] at hk
      rw [if_pos (by rw [hg]; exact (Option.some.inj hk).symm)]
    · rw [if_neg (fun q => ?_)]
      · exact sI_at hk hu t (by omega) (by omega)
      · obtain ⟨hkl, hkv⟩ := List.getElem?_eq_some_iff.1 hk
        rw [hg, ← hkv] at q
        exact e ((List.getElem_inj hu).1 q.symm)
/-- The value of an input. -/
theorem vN_inp {rs : List Kd} {il : List Bool} {i : Nat} (hi : rs[i]? = some (0, 0)) : vN ((0, 0) :: rs) il (i + 1) = il.getD (insL ((0, 0) :: rs.take i)).length false := by
  have hil := (List.getElem?_eq_some_iff.1 hi).1
  unfold vN
  rw [sN_in (show ((0, 0) :: rs)[i + 1]? = some (0, 0) by rw [List.getElem?_cons_succ]; exact hi) rfl]
  have far : ∀ t, t ≤ i + 1 → sN ((0, 0) :: rs) (s0F ((0, 0) :: rs) il) t (i + 1) = s0F ((0, 0) :: rs) il (i + 1) := fun t => by
    induction t with
    | zero => intro _; rfl
    | succ t ih =>
      intro ht
      show (if i + 1 = t ∧ isK (((0, 0) :: rs).getD t (0, 0)) = true then litV (sN ((0, 0) :: rs) (s0F ((0, 0) :: rs) il) t) (((0, 0) :: rs).getD t (0, 0)).1 && litV (sN ((0, 0) :: rs) (s0F ((0, 0) :: rs) il) t) (((0, 0) :: rs).getD t (0, 0)).2 else sN ((0, 0) :: rs) (s0F ((0, 0) :: rs) il) t (i + 1)) = _
      rw [if_neg (fun q => by omega)]
      exact ih (by omega)
  rw [far (i + 1) (Nat.le_refl _)]
  have hpre : insL ((0, 0) :: rs.take (i + 1)) = insL ((0, 0) :: rs.take i) ++ [2 * ((i : Int) + 1)] := by
    rw [List.take_add_one, hi, Option.toList_some, ← List.cons_append, insL_snoc, List.length_cons, List.length_take, Nat.min_eq_left (by omega), if_pos ⟨rfl, by omega⟩]
    simp
  have hex : ∃ rest, insL ((0, 0) :: rs) = insL ((0, 0) :: rs.take (i + 1)) ++ rest := by
    have key : ∀ n, ∃ rest, insL ((0, 0) :: rs.take (i + 1 + n)) = insL ((0, 0) :: rs.take (i + 1)) ++ rest := fun n => by
      induction n with
      | zero => exact ⟨[], by simp⟩
      | succ n ih =>
        obtain ⟨rest, ih⟩ := ih
        rw [← Nat.add_assoc, List.take_add_one]
        cases hq : rs[i + 1 + n]? with
        | none => exact ⟨rest, by simpa using ih⟩
        | some k =>
          rw [Option.toList_some, ← List.cons_append, insL_snoc, ih]
          exact ⟨_, by rw [List.append_assoc]⟩
    obtain ⟨rest, h⟩ := key rs.length
    rw [List.take_of_length_le (by omega)] at h
    exact ⟨rest, h⟩
  obtain ⟨rest, hall⟩ := hex
  have hk : (insL ((0, 0) :: rs))[(insL ((0, 0) :: rs.take i)).length]? = some (2 * ((i + 1 : Nat) : Int)) := by
    rw [hall, hpre, List.append_assoc, List.getElem?_append_right (Nat.le_refl _), Nat.sub_self]
    simp
  have hnd : (insL ((0, 0) :: rs)).Nodup := by
    have := insL_nodup ((0, 0) :: rs) ((0, 0) :: rs).length (Nat.le_refl _)
    rwa [List.take_length] at this
  exact sI_at hk hnd _ (List.getElem?_eq_some_iff.1 hk).1 (Nat.le_refl _)
theorem ins_take_lt {rs : List Kd} {i : Nat} (hi : rs[i]? = some (0, 0)) : (insL ((0, 0) :: rs.take i)).length < (insL ((0, 0) :: rs)).length := by
  have hil := (List.getElem?_eq_some_iff.1 hi).1
  have e1 : (insL ((0, 0) :: rs.take (i + 1))).length = (insL ((0, 0) :: rs.take i)).length + 1 := by
    rw [List.take_add_one, hi, Option.toList_some, ← List.cons_append, insL_snoc, List.length_cons, List.length_take, Nat.min_eq_left (by omega), if_pos ⟨rfl, by omega⟩, List.length_append]
    rfl
  have key : ∀ n, (insL ((0, 0) :: rs.take i)).length + 1 ≤ (insL ((0, 0) :: rs.take (i + 1 + n))).length := fun n => by
    induction n with
    | zero => rw [Nat.add_zero, e1]; exact Nat.le_refl _
    | succ n ih =>
      rw [← Nat.add_assoc, List.take_add_one (i := i + 1 + n)]
      cases hq : rs[i + 1 + n]? with
      | none => simpa using ih
      | some k =>
        rw [Option.toList_some, ← List.cons_append, insL_snoc, List.length_append]
        omega
  have h := key rs.length
  rw [List.take_of_length_le (i := i + 1 + rs.length) (by omega)] at h
  omega
/-- How far the store of one truth has come. -/
structure VS (w0 : World) (b I X : Nat) (y : Bool) (f : Nat → Bool) (g : Nat → Nat) (L : Nat → Bool) (x : World) : Prop where
  sz : x.heap.size = w0.heap.size
  os : x.os = w0.os
  tape : x.tape = w0.tape
  output : x.output = w0.output
  kp : ∀ q, q ≠ b → x.heap[q]? = w0.heap[q]?
  row : x.rowIs b 4 I (fun j => .bool (if (L 28 && decide (j = X)) = true then y else f j))
section
variable {w0 : World} {b I X : Nat} {y : Bool} {f : Nat → Bool} {g : Nat → Nat} {L : Nat → Bool} {x : World} {i : Nat}
theorem VS.start (h : w0.rowIs b 4 I (fun j => .bool (f j))) : VS w0 b I X y f g (fun _ => false) w0.drew := ⟨rfl, rfl, rfl, rfl, fun _ _ => rfl, World.rowIs.congr (w := w0.drew) h fun j _ => by simp⟩
theorem VS.go (h : VS w0 b I X y f g L x) (hi : (i != 28) = true) : VS w0 b I X y f g (updB L i) x := by
  rw [bne_iff_ne] at hi
  refine ⟨h.sz, h.os, h.tape, h.output, h.kp, ?_⟩
  rw [updB_ne (L := L) (i := i) (k := 28) (by omega)]
  exact h.row
theorem VS.at (h : VS w0 b I X y f g L x) (j : Nat) (hj : j < I) (hX : j ≠ X) : x.cell? ⟨b, j, none⟩ = some (.bool (f j)) := by
  rw [h.row.cell hj, if_neg (by simp [hX])]
theorem VS.st (h : VS w0 b I X y f g L x) (hL : L 28 = false) : VS w0 b I X y f g (updB L 28) (x.setCell ⟨b, X, none⟩ (.bool y)) := by
  refine ⟨by rw [World.size_setCell]; exact h.sz, h.os, h.tape, h.output, fun q hq => (heap_setCell_other _ _ _ _ hq).trans (h.kp q hq), ?_⟩
  rw [updB_eq]
  refine (h.row.set X (.bool y)).congr fun j _ => ?_
  rw [hL]
  by_cases e : j = X <;> simp [e]
end
theorem lit_at (f : Nat → Bool) (l : Nat) (x : Bool) (h : f (l / 2) = x) : litV f l = (x != decide (l % 2 = 1)) := by unfold litV; rw [h]

set_option maxRecDepth 20000 in
set_option maxHeartbeats 12800000 in
theorem values_any {w : World} {F : Nat → Prop} {g mo : Nat} {rs : List Kd} (h : Rg w F g mo rs) {v : Value} {il : List Bool} (hv : Bz w v il) (hn : il.length = (insL ((0, 0) :: rs)).length) :
    Calls Try.prog 40 #[.pointer (some ⟨g, 0, none⟩), v] w fun e w' => e = .returned (.slice (some ⟨w.heap.size, 0, none⟩) (rs.length + 1) (rs.length + 1)) ∧ w'.rowIs w.heap.size 4 (rs.length + 1) (fun j => .bool (vN ((0, 0) :: rs) il j)) ∧ Below w.heap.size w w' := by
  have hlen := h.len
  have HIV : Hid _ := h.inv
  obtain ⟨v1, hx, -⟩ := h
  have HC0 : Hid _ := hx.c0
  have c0 := hx.c0
  have hg := hx.lt
  obtain ⟨va, vc, rfl, hcell⟩ := hx.sl
  have HCE : Hid _ := hcell
  obtain ⟨a', c', rfl, hval⟩ := hv
  have HVAL : Hid _ := hval
  obtain ⟨N, eN⟩ : ∃ N, N = rs.length := ⟨_, rfl⟩
  have HN : Hid _ := eN
  rw [← eN] at HC0 c0 hlen ⊢
  obtain ⟨I, eI⟩ : ∃ I, I = N + 1 := ⟨_, rfl⟩
  rw [← eI]
  obtain ⟨m, em⟩ : ∃ m, m = il.length := ⟨_, rfl⟩
  have HM : Hid _ := em
  rw [← em]
  have HLEN : Hid _ := hn
  have hmk : ∀ wx, (Instr.makeSlice 23 (.int .i64 ((N : Int) + 1)) (.int .i64 ((N : Int) + 1))).run Try.prog wx = .ok (.slice (some ⟨wx.heap.size, 0, none⟩) I I) (wx.alloc (.cells (madeCells #[.bool false] I) 4)) := fun wx => by
    have hx := run_make_row' (P := Try.prog) 23 4 (.bool false) 1 underBools infoBool rfl .i64 .i64 I (by omega) (by omega) wx
    rw [show (I : Int) = (N : Int) + 1 by omega] at hx
    exact hx
  have hN4 : (N : Int) < 40000 := by omega
  have HROW : Hid _ := World.rowIs_made w (.bool false) I 4
  have HEI : Hid _ := eI
  clear hx hcell hval eN eI em hn
  go_enter Try.func40, Try.ntmps40
  go_wp2_with fail
  clear hmk c0
  go_loopw [6, 7] (fun q i wr => ∃ k : Nat, k ≤ N ∧ i = .int .i64 (k : Int) ∧ q = .int .i64 ((insL ((0, 0) :: rs.take k)).length : Int) ∧ wr.rowIs w.heap.size 4 I (fun j => .bool (decide (j ≤ k) && vN ((0, 0) :: rs) il j)) ∧ w.heap.size + 1 ≤ wr.heap.size ∧ Below w.heap.size w wr) (fun q i wr => N - (intOf i).toNat)
  case atStart =>
    refine ⟨0, Nat.zero_le _, rfl, rfl, World.rowIs.congr HROW.out (fun j _ => ?_), by simp, by go_grown⟩
    by_cases e : j = 0
    · subst e
      rw [vN_zero HIV.out]; rfl
    · simp [e]
  case round =>
    clear HROW
    obtain ⟨k, hk, rfl, rfl, hrow, hws, hbl⟩ := hrel
    have hk2 : (k : Int) < 40000 := by omega
    have c0 : wr.cell? ⟨g, 0, none⟩ = some (.slice va N vc) := bel_cell hbl hg HC0.out
    have hg2 : g < wr.heap.size := by omega
    by_cases hkN : k < N
    · obtain ⟨kd, hkd⟩ : ∃ kd, rs[k]? = some kd := ⟨_, List.getElem?_eq_getElem (by rw [← HN.out]; exact hkN)⟩
      obtain ⟨r, rfl, hrl, hc⟩ := HCE.out.resolve_left (fun e => by have := HN.out; rw [e] at this; simp at this; omega)
      obtain ⟨q0, q1, q2⟩ := hc k kd hkd
      have d0 := keep_cell hbl q0
      have d1 := keep_cell hbl q1
      have d2 := keep_cell hbl q2
      have hkI : (k : Int) < (N : Int) := by omega
      have hkI2 : (k : Int) + 1 < (I : Int) := by have := HEI.out; omega
      have hrw : r < wr.heap.size := World.block_lt_of_cell? _ _ d0
      have HTK : Hid ((insL ((0, 0) :: rs.take (k + 1))).length = (insL ((0, 0) :: rs.take k)).length + (if kd = (0, 0) then 1 else 0)) := by
        unfold Hid
        rw [List.take_add_one, hkd, Option.toList_some, ← List.cons_append, insL_snoc, List.length_append]
        by_cases e : kd = (0, 0)
        · rw [if_pos e, if_pos ⟨e, by simp⟩]; rfl
        · rw [if_neg e, if_neg (fun q => e q.1)]; rfl
      obtain ⟨p, ep⟩ : ∃ p, p = (insL ((0, 0) :: rs.take k)).length := ⟨_, rfl⟩
      rw [← ep] at HTK ⊢
      have hsw : w.heap.size < wr.heap.size := by omega
      clear hc q0 q1 q2
      by_cases h00 : kd = (0, 0)
      · subst h00
        have hlt := ins_take_lt hkd
        rw [← ep, ← HLEN.out, ← HM.out] at hlt
        have HV : Hid (vN ((0, 0) :: rs) il (k + 1) = il.getD p false) := by unfold Hid; rw [vN_inp hkd, ← ep]
        obtain ⟨r2, o2, rfl, hVi⟩ := HVAL.out.resolve_left (fun e => by have := HM.out; rw [e] at this; simp at this; omega)
        have d3 := keep_cell hbl (hVi p (by rw [← HM.out]; exact hlt))
        obtain ⟨y, hy⟩ : ∃ y, y = il.getD p false := ⟨_, rfl⟩
        rw [← hy] at d3 HV
        have hpi : (p : Int) < (m : Int) := by omega
        have hp4 : (p : Int) < 50000 := by have := insL_len ((0, 0) :: rs.take k); rw [← ep, List.length_cons, List.length_take] at this; omega
        have hr2 : r2 < wr.heap.size := World.block_lt_of_cell? _ _ d3
        have e3 : wr.cell? ⟨w.heap.size, k + 1, none⟩ = some (.bool (decide (k + 1 ≤ k) && vN ((0, 0) :: rs) il (k + 1))) := hrow.cell (by omega)
        have f3 := hrow.frozen (k + 1)
        have HR2 : Hid (∀ wz : World, wz.heap[w.heap.size]? = (wr.setCell ⟨w.heap.size, k + 1, none⟩ (.bool y)).heap[w.heap.size]? → wz.rowIs w.heap.size 4 I (fun j => .bool (decide (j ≤ k + 1) && vN ((0, 0) :: rs) il j))) := fun wz hz => ((hrow.set (k + 1) (.bool y)).congr (fun j _ => by
          by_cases e : j = k + 1
          · subst e; rw [if_pos rfl, HV.out]; simp
          · rw [if_neg e]
            by_cases e2 : j ≤ k
            · rw [decide_eq_true e2, decide_eq_true (by omega)]
            · rw [decide_eq_false e2, decide_eq_false (by omega)])).of_block hz
        rw [if_pos rfl] at HTK
        rw [show decide (((0, 0) : Kd) = (0, 0)) = true from rfl] at d2
        obtain ⟨z3, ez3⟩ : ∃ z, z = (decide (k + 1 ≤ k) && vN ((0, 0) :: rs) il (k + 1)) := ⟨_, rfl⟩
        rw [← ez3] at e3
        dsimp only at d0 d1
        clear hrow hVi hkd hy ez3 ep hlt HVAL
        go_wp2_with fail
        refine ⟨⟨k + 1, by omega, by go_num, by rw [HTK.out]; rfl, HR2.out _ (heap_alloc_old _ _ (by rw [World.size_setCell]; exact hsw)), by rw [size_alloc', World.size_setCell]; omega, ?_⟩, by simp [intOf]; omega⟩
        go_grown
      · have hkid := HIV.out.kid (k + 1) kd (by rw [List.getElem?_cons_succ]; exact hkd) h00
        have hvn := vN_and HIV.out il (n := k + 1) (by rw [List.getElem?_cons_succ]; exact hkd) h00
        rw [decide_eq_false h00] at d2
        rw [if_neg h00] at HTK
        obtain ⟨k1, k2⟩ := kd
        dsimp only at hkid hvn d0 d1
        obtain ⟨f, ef⟩ : ∃ f : Nat → Bool, f = fun j => decide (j ≤ k) && vN ((0, 0) :: rs) il j := ⟨_, rfl⟩
        obtain ⟨A, eA⟩ : ∃ A, A = k1 / 2 := ⟨_, rfl⟩
        obtain ⟨B1, eB⟩ : ∃ B1, B1 = k2 / 2 := ⟨_, rfl⟩
        obtain ⟨fA, efA0⟩ : ∃ fA, fA = vN ((0, 0) :: rs) il A := ⟨_, rfl⟩
        obtain ⟨fB, efB0⟩ : ∃ fB, fB = vN ((0, 0) :: rs) il B1 := ⟨_, rfl⟩
        have efA : f A = fA := by rw [ef, efA0]; simp; omega
        have efB : f B1 = fB := by rw [ef, efB0]; simp; omega
        obtain ⟨x1, ex1⟩ : ∃ x1, x1 = (fA != decide (k1 % 2 = 1)) := ⟨_, rfl⟩
        obtain ⟨x2, ex2⟩ : ∃ x2, x2 = (fB != decide (k2 % 2 = 1)) := ⟨_, rfl⟩
        rw [evV_eq, evV_eq, lit_at _ k1 fA (by rw [efA0, eA]), lit_at _ k2 fB (by rw [efB0, eB]), ← ex1, ← ex2] at hvn
        have HNX0 : Hid (∀ y, y = (x1 && x2) → ∀ j, Value.bool (decide (j ≤ k + 1) && vN ((0, 0) :: rs) il j) = .bool (if (decide (28 < 29) && decide (j = k + 1)) = true then y else f j)) := fun y hy j => by
          by_cases e : j = k + 1
          · subst e; rw [hvn, hy]; simp
          · rw [if_neg (by simp [e]), ef]
            dsimp only
            by_cases e2 : j ≤ k
            · rw [decide_eq_true e2, decide_eq_true (by omega)]
            · rw [decide_eq_false e2, decide_eq_false (by omega)]
        obtain ⟨wU, ewU⟩ : ∃ wU, wU = wr.alloc (.cells #[.int .i64 (k1 : Int), .int .i64 (k2 : Int), .bool false] 69) := ⟨_, rfl⟩
        have HRU : Hid (wU.rowIs w.heap.size 4 I (fun j => .bool (f j))) := by unfold Hid; rw [ewU, ef]; exact hrow.alloc _
        have hbU : Below w.heap.size w wU := by rw [ewU]; exact hbl.alloc (by omega) _
        have hsU : wU.heap.size = wr.heap.size + 1 := by rw [ewU]; simp
        have hbx : wU.heap[wr.heap.size]? = some (.cells #[.int .i64 (k1 : Int), .int .i64 (k2 : Int), .bool false] 69) := by rw [ewU]; exact heap_alloc_new wr _
        have HCU : Hid (∀ x : World, (∀ q, q ≠ w.heap.size → x.heap[q]? = wU.heap[q]?) → x.cell? ⟨wr.heap.size, 0, none⟩ = some (.int .i64 (k1 : Int)) ∧ x.cell? ⟨wr.heap.size, 1, none⟩ = some (.int .i64 (k2 : Int))) := fun x hx => ⟨cell_of ((hx _ (by omega)).trans hbx) 0 rfl, cell_of ((hx _ (by omega)).trans hbx) 1 rfl⟩
        have hAk : A ≤ k := by omega
        have hBk : B1 ≤ k := by omega
        have hAI : A < I := by have := HEI.out; omega
        have hBI : B1 < I := by have := HEI.out; omega
        have a1 : (A : Int) < (I : Int) := by have := HEI.out; omega
        have a2 : (B1 : Int) < (I : Int) := by have := HEI.out; omega
        have u1 : (k1 : Int).tdiv 2 = (A : Int) := by rw [Int.tdiv_eq_ediv_of_nonneg (by omega)]; omega
        have u2 : (k2 : Int).tdiv 2 = (B1 : Int) := by rw [Int.tdiv_eq_ediv_of_nonneg (by omega)]; omega
        have u3 : IntKind.i64.wrap (A : Int) = (A : Int) := by rw [IntKind.wrap_i64]; omega
        have u4 : IntKind.i64.wrap (B1 : Int) = (B1 : Int) := by rw [IntKind.wrap_i64]; omega
        have u7 : IntKind.i64.wrap ((k : Int) + 1) = (k : Int) + 1 := by rw [IntKind.wrap_i64]; omega
        obtain ⟨z1, ez1⟩ : ∃ z1, z1 = decide (k1 % 2 = 1) := ⟨_, rfl⟩
        obtain ⟨z2, ez2⟩ : ∃ z2, z2 = decide (k2 % 2 = 1) := ⟨_, rfl⟩
        have u5 : ((k1 : Int).tmod 2 == 1) = z1 := by
          rw [ez1, Int.tmod_eq_emod_of_nonneg (by omega), Bool.eq_iff_iff, beq_iff_eq, decide_eq_true_eq]; omega
        have u6 : ((k2 : Int).tmod 2 == 1) = z2 := by
          rw [ez2, Int.tmod_eq_emod_of_nonneg (by omega), Bool.eq_iff_iff, beq_iff_eq, decide_eq_true_eq]; omega
        rw [← ez1] at ex1
        rw [← ez2] at ex2
        have HEW : Hid _ := ewU
        have HX1 : Hid _ := ex1
        have HX2 : Hid _ := ex2
        clear hrow hkd h00 hkid hvn ef efA0 efB0 ep hbx ewU ex1 ex2 eA eB ez1 ez2
        go_wp2_with fail
        rw [← HEW.out]
        --VREG
        cases fA <;> cases z1
        · have HNX : Hid _ := HNX0.out _ (by first | (rw [HX1.out, HX2.out]; done) | (rw [HX1.out, HX2.out]; rfl) | simp [HX1.out, HX2.out])
          refine wp_named fun a0 ha0 => ?_
          have o5 := old_at ha0 (t := 5) rfl
          have o7 := old_at ha0 (t := 7) rfl
          have o8 := old_at ha0 (t := 8) rfl
          refine wp_region_lin (S := VS wU w.heap.size I (k + 1) false f) [] (fun _ => 0) (by kernel_rfl) (by kernel_rfl) (by rw [← ha0]; kernel_rfl) (VS.start HRU.out) ?_
          apply LinAll.cons0
          · intro g5 L5 a5 x hLi haft hS hK; have t5 := (hK.old 5 (by kernel_rfl)).trans o5; (try dsimp only at t5); refine go_in (wanted_all rfl) ?_; intro K hk; clear haft hK hLi; go_simp; exact hk.out g5 x (fun _ _ => rfl) (hS.go rfl)
          apply LinAll.cons0
          · intro g5 L5 a5 x hLi haft hS hK; have t7 := (hK.old 7 (by kernel_rfl)).trans o7; (try dsimp only at t7); refine go_in (wanted_all rfl) ?_; intro K hk; clear haft hK hLi; go_simp; exact hk.out g5 x (fun _ _ => rfl) (hS.go rfl)
          apply LinAll.cons0
          · intro g5 L5 a5 x hLi haft hS hK; have t45 := hK.new 1 0 _ 45 _ rfl rfl rfl (by kernel_rfl) (waits haft 1 (by kernel_rfl)); (try dsimp only at t45); refine go_in (wanted_all rfl) ?_; intro K hk; clear haft hK hLi; go_simp; exact hk.out g5 x (fun _ _ => rfl) (hS.go rfl)
          apply LinAll.cons0
          · intro g5 L5 a5 x hLi haft hS hK; have t5 := (hK.old 5 (by kernel_rfl)).trans o5; (try dsimp only at t5); refine go_in (wanted_all rfl) ?_; intro K hk; clear haft hK hLi; go_simp; exact hk.out g5 x (fun _ _ => rfl) (hS.go rfl)
          apply LinAll.cons0
          · intro g5 L5 a5 x hLi haft hS hK; have t8 := (hK.old 8 (by kernel_rfl)).trans o8; (try dsimp only at t8); refine go_in (wanted_all rfl) ?_; intro K hk; clear haft hK hLi; go_simp; exact hk.out g5 x (fun _ _ => rfl) (hS.go rfl)
          apply LinAll.cons0
          · intro g5 L5 a5 x hLi haft hS hK; have t48 := hK.new 4 0 _ 48 _ rfl rfl rfl (by kernel_rfl) (waits haft 4 (by kernel_rfl)); (try dsimp only at t48); refine go_in (wanted_all rfl) ?_; intro K hk; obtain ⟨e1, e2⟩ := HCU.out x hS.kp; have e3 := hS.at A hAI (by omega); have e4 := hS.at B1 hBI (by omega); rw [efA] at e3; rw [efB] at e4; clear haft hK hLi; go_simp; exact hk.out g5 x (fun _ _ => rfl) (hS.go rfl)
          apply LinAll.cons0
          · intro g5 L5 a5 x hLi haft hS hK; have t49 := hK.new 5 0 _ 49 _ rfl rfl rfl (by kernel_rfl) (waits haft 5 (by kernel_rfl)); (try dsimp only at t49); refine go_in (wanted_all rfl) ?_; intro K hk; clear haft hK hLi; go_simp; exact hk.out g5 x (fun _ _ => rfl) (hS.go rfl)
          apply LinAll.cons0
          · intro g5 L5 a5 x hLi haft hS hK; have t47 := hK.new 3 3 _ 47 _ rfl rfl rfl (by kernel_rfl) (waits haft 3 (by kernel_rfl)); have t50 := hK.new 6 0 _ 50 _ rfl rfl rfl (by kernel_rfl) (waits haft 6 (by kernel_rfl)); (try dsimp only at t47 t50); refine go_in (wanted_all rfl) ?_; intro K hk; clear haft hK hLi; go_simp; exact hk.out g5 x (fun _ _ => rfl) (hS.go rfl)
          apply LinAll.cons0
          · intro g5 L5 a5 x hLi haft hS hK; have t51 := hK.new 7 0 _ 51 _ rfl rfl rfl (by kernel_rfl) (waits haft 7 (by kernel_rfl)); (try dsimp only at t51); refine go_in (wanted_all rfl) ?_; intro K hk; obtain ⟨e1, e2⟩ := HCU.out x hS.kp; have e3 := hS.at A hAI (by omega); have e4 := hS.at B1 hBI (by omega); rw [efA] at e3; rw [efB] at e4; clear haft hK hLi; go_simp; exact hk.out g5 x (fun _ _ => rfl) (hS.go rfl)
          apply LinAll.cons0
          · intro g5 L5 a5 x hLi haft hS hK; have t8 := (hK.old 8 (by kernel_rfl)).trans o8; (try dsimp only at t8); refine go_in (wanted_all rfl) ?_; intro K hk; clear haft hK hLi; go_simp; exact hk.out g5 x (fun _ _ => rfl) (hS.go rfl)
          apply LinAll.cons0
          · intro g5 L5 a5 x hLi haft hS hK; have t53 := hK.new 9 0 _ 53 _ rfl rfl rfl (by kernel_rfl) (waits haft 9 (by kernel_rfl)); (try dsimp only at t53); refine go_in (wanted_all rfl) ?_; intro K hk; obtain ⟨e1, e2⟩ := HCU.out x hS.kp; have e3 := hS.at A hAI (by omega); have e4 := hS.at B1 hBI (by omega); rw [efA] at e3; rw [efB] at e4; clear haft hK hLi; go_simp; exact hk.out g5 x (fun _ _ => rfl) (hS.go rfl)
          apply LinAll.cons0
          · intro g5 L5 a5 x hLi haft hS hK; have t54 := hK.new 10 0 _ 54 _ rfl rfl rfl (by kernel_rfl) (waits haft 10 (by kernel_rfl)); (try dsimp only at t54); refine go_in (wanted_all rfl) ?_; intro K hk; clear haft hK hLi; go_simp; exact hk.out g5 x (fun _ _ => rfl) (hS.go rfl)
          apply LinAll.cons0
          · intro g5 L5 a5 x hLi haft hS hK; have t55 := hK.new 11 0 _ 55 _ rfl rfl rfl (by kernel_rfl) (waits haft 11 (by kernel_rfl)); (try dsimp only at t55); refine go_in (wanted_all rfl) ?_; intro K hk; clear haft hK hLi; go_simp; exact hk.out g5 x (fun _ _ => rfl) (hS.go rfl)
          apply LinAll.cons0
          · intro g5 L5 a5 x hLi haft hS hK; have t52 := hK.new 8 4 _ 52 _ rfl rfl rfl (by kernel_rfl) (waits haft 8 (by kernel_rfl)); have t56 := hK.new 12 0 _ 56 _ rfl rfl rfl (by kernel_rfl) (waits haft 12 (by kernel_rfl)); (try dsimp only at t52 t56); refine go_in (wanted_all rfl) ?_; intro K hk; clear haft hK hLi; go_simp; exact hk.out g5 x (fun _ _ => rfl) (hS.go rfl)
          apply LinAll.cons0
          · intro g5 L5 a5 x hLi haft hS hK; have t57 := hK.new 13 0 _ 57 _ rfl rfl rfl (by kernel_rfl) (waits haft 13 (by kernel_rfl)); (try dsimp only at t57); refine go_in (wanted_all rfl) ?_; intro K hk; clear haft hK hLi; go_simp; exact hk.out g5 x (fun _ _ => rfl) (hS.go rfl)
          refine LinAll.cons0 (v := fun _ => undef) ?_ ?_
          · intro g5 L5 a5 x hLi haft hS hK; have t5 := (hK.old 5 (by kernel_rfl)).trans o5; have tg := hK.new 14 0 _ 58 _ rfl rfl rfl (by kernel_rfl) (waits haft 14 (by kernel_rfl)); (try dsimp only at t5); exact go_out (wanted_at rfl rfl rfl tg rfl) ⟨rfl, hS.go rfl⟩
          refine LinAll.cons0 (v := fun _ => undef) ?_ ?_
          · intro g5 L5 a5 x hLi haft hS hK; have t8 := (hK.old 8 (by kernel_rfl)).trans o8; have tg := hK.new 14 1 _ 58 _ rfl rfl rfl (by kernel_rfl) (waits haft 14 (by kernel_rfl)); (try dsimp only at t8); exact go_out (wanted_at rfl rfl rfl tg rfl) ⟨rfl, hS.go rfl⟩
          refine LinAll.cons0 (v := fun _ => undef) ?_ ?_
          · intro g5 L5 a5 x hLi haft hS hK; have t60 := hK.new 16 0 _ 60 _ rfl rfl rfl (by kernel_rfl) (waits haft 16 (by kernel_rfl)); have tg := hK.new 14 2 _ 58 _ rfl rfl rfl (by kernel_rfl) (waits haft 14 (by kernel_rfl)); (try dsimp only at t60); exact go_out (wanted_at rfl rfl rfl tg rfl) ⟨rfl, hS.go rfl⟩
          refine LinAll.cons0 (v := fun _ => undef) ?_ ?_
          · intro g5 L5 a5 x hLi haft hS hK; have t61 := hK.new 17 0 _ 61 _ rfl rfl rfl (by kernel_rfl) (waits haft 17 (by kernel_rfl)); have tg := hK.new 14 3 _ 58 _ rfl rfl rfl (by kernel_rfl) (waits haft 14 (by kernel_rfl)); (try dsimp only at t61); exact go_out (wanted_at rfl rfl rfl tg rfl) ⟨rfl, hS.go rfl⟩
          refine LinAll.cons0 (v := fun _ => undef) ?_ ?_
          · intro g5 L5 a5 x hLi haft hS hK; have t59 := hK.new 15 3 _ 59 _ rfl rfl rfl (by kernel_rfl) (waits haft 15 (by kernel_rfl)); have t62 := hK.new 18 0 _ 62 _ rfl rfl rfl (by kernel_rfl) (waits haft 18 (by kernel_rfl)); have tg := hK.new 14 4 _ 58 _ rfl rfl rfl (by kernel_rfl) (waits haft 14 (by kernel_rfl)); (try dsimp only at t59 t62); exact go_out (wanted_at rfl rfl rfl tg rfl) ⟨rfl, hS.go rfl⟩
          refine LinAll.cons0 (v := fun _ => undef) ?_ ?_
          · intro g5 L5 a5 x hLi haft hS hK; have t63 := hK.new 19 0 _ 63 _ rfl rfl rfl (by kernel_rfl) (waits haft 19 (by kernel_rfl)); have tg := hK.new 14 5 _ 58 _ rfl rfl rfl (by kernel_rfl) (waits haft 14 (by kernel_rfl)); (try dsimp only at t63); exact go_out (wanted_at rfl rfl rfl tg rfl) ⟨rfl, hS.go rfl⟩
          refine LinAll.cons0 (v := fun _ => undef) ?_ ?_
          · intro g5 L5 a5 x hLi haft hS hK; have t8 := (hK.old 8 (by kernel_rfl)).trans o8; have tg := hK.new 14 6 _ 58 _ rfl rfl rfl (by kernel_rfl) (waits haft 14 (by kernel_rfl)); (try dsimp only at t8); exact go_out (wanted_at rfl rfl rfl tg rfl) ⟨rfl, hS.go rfl⟩
          refine LinAll.cons0 (v := fun _ => undef) ?_ ?_
          · intro g5 L5 a5 x hLi haft hS hK; have t65 := hK.new 21 0 _ 65 _ rfl rfl rfl (by kernel_rfl) (waits haft 21 (by kernel_rfl)); have tg := hK.new 14 7 _ 58 _ rfl rfl rfl (by kernel_rfl) (waits haft 14 (by kernel_rfl)); (try dsimp only at t65); exact go_out (wanted_at rfl rfl rfl tg rfl) ⟨rfl, hS.go rfl⟩
          refine LinAll.cons0 (v := fun _ => undef) ?_ ?_
          · intro g5 L5 a5 x hLi haft hS hK; have t66 := hK.new 22 0 _ 66 _ rfl rfl rfl (by kernel_rfl) (waits haft 22 (by kernel_rfl)); have tg := hK.new 14 8 _ 58 _ rfl rfl rfl (by kernel_rfl) (waits haft 14 (by kernel_rfl)); (try dsimp only at t66); exact go_out (wanted_at rfl rfl rfl tg rfl) ⟨rfl, hS.go rfl⟩
          refine LinAll.cons0 (v := fun _ => undef) ?_ ?_
          · intro g5 L5 a5 x hLi haft hS hK; have t67 := hK.new 23 0 _ 67 _ rfl rfl rfl (by kernel_rfl) (waits haft 23 (by kernel_rfl)); have tg := hK.new 14 9 _ 58 _ rfl rfl rfl (by kernel_rfl) (waits haft 14 (by kernel_rfl)); (try dsimp only at t67); exact go_out (wanted_at rfl rfl rfl tg rfl) ⟨rfl, hS.go rfl⟩
          refine LinAll.cons0 (v := fun _ => undef) ?_ ?_
          · intro g5 L5 a5 x hLi haft hS hK; have t64 := hK.new 20 4 _ 64 _ rfl rfl rfl (by kernel_rfl) (waits haft 20 (by kernel_rfl)); have t68 := hK.new 24 0 _ 68 _ rfl rfl rfl (by kernel_rfl) (waits haft 24 (by kernel_rfl)); have tg := hK.new 14 10 _ 58 _ rfl rfl rfl (by kernel_rfl) (waits haft 14 (by kernel_rfl)); (try dsimp only at t64 t68); exact go_out (wanted_at rfl rfl rfl tg rfl) ⟨rfl, hS.go rfl⟩
          apply LinAll.cons0
          · intro g5 L5 a5 x hLi haft hS hK; have t58 := hK.new 14 11 _ 58 _ rfl rfl rfl (by kernel_rfl) (waits haft 14 (by kernel_rfl)); have t69 := hK.new 25 0 _ 69 _ rfl rfl rfl (by kernel_rfl) (waits haft 25 (by kernel_rfl)); (try dsimp only at t58 t69); refine go_in (wanted_all rfl) ?_; intro K hk; clear haft hK hLi; go_simp; exact hk.out g5 x (fun _ _ => rfl) (hS.go rfl)
          apply LinAll.cons0
          · intro g5 L5 a5 x hLi haft hS hK; have t44 := hK.new 0 26 _ 44 _ rfl rfl rfl (by kernel_rfl) (waits haft 0 (by kernel_rfl)); have t46 := hK.new 2 24 _ 46 _ rfl rfl rfl (by kernel_rfl) (waits haft 2 (by kernel_rfl)); (try dsimp only at t44 t46); refine go_in (wanted_all rfl) ?_; intro K hk; clear haft hK hLi; go_simp; exact hk.out g5 x (fun _ _ => rfl) (hS.go rfl)
          refine LinAll.cons0 (v := fun _ => undef) ?_ ?_
          · intro g5 L5 a5 x hLi haft hS hK; have t70 := hK.new 26 1 _ 70 _ rfl rfl rfl (by kernel_rfl) (waits haft 26 (by kernel_rfl)); have t71 := hK.new 27 0 _ 71 _ rfl rfl rfl (by kernel_rfl) (waits haft 27 (by kernel_rfl)); (try dsimp only at t70 t71); refine go_in (wanted_all rfl) ?_; intro K hk; have m1 := hS.row.cell (show k + 1 < I by omega); have m2 := hS.row.frozen (k + 1); have hN := hS.st hLi; clear haft hK hLi hS; go_simp; exact hk.out g5 _ (fun _ _ => rfl) hN
          refine LinAll.nil fun g5 x hS => ?_
          subst ha0
          simp only [Act.put, List.setIfInBounds_toArray, List.set_cons_zero, List.set_cons_succ]
          clear o5 o7 o8
          have HS : Hid _ := hS
          clear hS
          go_wp2_with fail
          refine ⟨⟨k + 1, by omega, by go_num, by rw [HTK.out]; rfl, ?_, by rw [HS.out.sz]; omega, ?_⟩, by simp [intOf]; omega⟩
          · refine HS.out.row.congr fun j _ => ?_
            exact (HNX.out j).symm
          · exact hbU.trans ⟨HS.out.os, HS.out.tape, HS.out.output, Nat.le_of_eq HS.out.sz.symm, fun q hq => HS.out.kp q (by omega)⟩
        · have HNX : Hid _ := HNX0.out _ (by first | (rw [HX1.out, HX2.out]; done) | (rw [HX1.out, HX2.out]; rfl) | simp [HX1.out, HX2.out])
          refine wp_named fun a0 ha0 => ?_
          have o5 := old_at ha0 (t := 5) rfl
          have o7 := old_at ha0 (t := 7) rfl
          have o8 := old_at ha0 (t := 8) rfl
          refine wp_region_lin (S := VS wU w.heap.size I (k + 1) (!(fB == z2)) f) [] (fun _ => 0) (by kernel_rfl) (by kernel_rfl) (by rw [← ha0]; kernel_rfl) (VS.start HRU.out) ?_
          apply LinAll.cons0
          · intro g5 L5 a5 x hLi haft hS hK; have t5 := (hK.old 5 (by kernel_rfl)).trans o5; (try dsimp only at t5); refine go_in (wanted_all rfl) ?_; intro K hk; clear haft hK hLi; go_simp; exact hk.out g5 x (fun _ _ => rfl) (hS.go rfl)
          apply LinAll.cons0
          · intro g5 L5 a5 x hLi haft hS hK; have t7 := (hK.old 7 (by kernel_rfl)).trans o7; (try dsimp only at t7); refine go_in (wanted_all rfl) ?_; intro K hk; clear haft hK hLi; go_simp; exact hk.out g5 x (fun _ _ => rfl) (hS.go rfl)
          apply LinAll.cons0
          · intro g5 L5 a5 x hLi haft hS hK; have t45 := hK.new 1 0 _ 45 _ rfl rfl rfl (by kernel_rfl) (waits haft 1 (by kernel_rfl)); (try dsimp only at t45); refine go_in (wanted_all rfl) ?_; intro K hk; clear haft hK hLi; go_simp; exact hk.out g5 x (fun _ _ => rfl) (hS.go rfl)
          apply LinAll.cons0
          · intro g5 L5 a5 x hLi haft hS hK; have t5 := (hK.old 5 (by kernel_rfl)).trans o5; (try dsimp only at t5); refine go_in (wanted_all rfl) ?_; intro K hk; clear haft hK hLi; go_simp; exact hk.out g5 x (fun _ _ => rfl) (hS.go rfl)
          apply LinAll.cons0
          · intro g5 L5 a5 x hLi haft hS hK; have t8 := (hK.old 8 (by kernel_rfl)).trans o8; (try dsimp only at t8); refine go_in (wanted_all rfl) ?_; intro K hk; clear haft hK hLi; go_simp; exact hk.out g5 x (fun _ _ => rfl) (hS.go rfl)
          apply LinAll.cons0
          · intro g5 L5 a5 x hLi haft hS hK; have t48 := hK.new 4 0 _ 48 _ rfl rfl rfl (by kernel_rfl) (waits haft 4 (by kernel_rfl)); (try dsimp only at t48); refine go_in (wanted_all rfl) ?_; intro K hk; obtain ⟨e1, e2⟩ := HCU.out x hS.kp; have e3 := hS.at A hAI (by omega); have e4 := hS.at B1 hBI (by omega); rw [efA] at e3; rw [efB] at e4; clear haft hK hLi; go_simp; exact hk.out g5 x (fun _ _ => rfl) (hS.go rfl)
          apply LinAll.cons0
          · intro g5 L5 a5 x hLi haft hS hK; have t49 := hK.new 5 0 _ 49 _ rfl rfl rfl (by kernel_rfl) (waits haft 5 (by kernel_rfl)); (try dsimp only at t49); refine go_in (wanted_all rfl) ?_; intro K hk; clear haft hK hLi; go_simp; exact hk.out g5 x (fun _ _ => rfl) (hS.go rfl)
          apply LinAll.cons0
          · intro g5 L5 a5 x hLi haft hS hK; have t47 := hK.new 3 3 _ 47 _ rfl rfl rfl (by kernel_rfl) (waits haft 3 (by kernel_rfl)); have t50 := hK.new 6 0 _ 50 _ rfl rfl rfl (by kernel_rfl) (waits haft 6 (by kernel_rfl)); (try dsimp only at t47 t50); refine go_in (wanted_all rfl) ?_; intro K hk; clear haft hK hLi; go_simp; exact hk.out g5 x (fun _ _ => rfl) (hS.go rfl)
          apply LinAll.cons0
          · intro g5 L5 a5 x hLi haft hS hK; have t51 := hK.new 7 0 _ 51 _ rfl rfl rfl (by kernel_rfl) (waits haft 7 (by kernel_rfl)); (try dsimp only at t51); refine go_in (wanted_all rfl) ?_; intro K hk; obtain ⟨e1, e2⟩ := HCU.out x hS.kp; have e3 := hS.at A hAI (by omega); have e4 := hS.at B1 hBI (by omega); rw [efA] at e3; rw [efB] at e4; clear haft hK hLi; go_simp; exact hk.out g5 x (fun _ _ => rfl) (hS.go rfl)
          apply LinAll.cons0
          · intro g5 L5 a5 x hLi haft hS hK; have t8 := (hK.old 8 (by kernel_rfl)).trans o8; (try dsimp only at t8); refine go_in (wanted_all rfl) ?_; intro K hk; clear haft hK hLi; go_simp; exact hk.out g5 x (fun _ _ => rfl) (hS.go rfl)
          apply LinAll.cons0
          · intro g5 L5 a5 x hLi haft hS hK; have t53 := hK.new 9 0 _ 53 _ rfl rfl rfl (by kernel_rfl) (waits haft 9 (by kernel_rfl)); (try dsimp only at t53); refine go_in (wanted_all rfl) ?_; intro K hk; obtain ⟨e1, e2⟩ := HCU.out x hS.kp; have e3 := hS.at A hAI (by omega); have e4 := hS.at B1 hBI (by omega); rw [efA] at e3; rw [efB] at e4; clear haft hK hLi; go_simp; exact hk.out g5 x (fun _ _ => rfl) (hS.go rfl)
          apply LinAll.cons0
          · intro g5 L5 a5 x hLi haft hS hK; have t54 := hK.new 10 0 _ 54 _ rfl rfl rfl (by kernel_rfl) (waits haft 10 (by kernel_rfl)); (try dsimp only at t54); refine go_in (wanted_all rfl) ?_; intro K hk; clear haft hK hLi; go_simp; exact hk.out g5 x (fun _ _ => rfl) (hS.go rfl)
          apply LinAll.cons0
          · intro g5 L5 a5 x hLi haft hS hK; have t55 := hK.new 11 0 _ 55 _ rfl rfl rfl (by kernel_rfl) (waits haft 11 (by kernel_rfl)); (try dsimp only at t55); refine go_in (wanted_all rfl) ?_; intro K hk; clear haft hK hLi; go_simp; exact hk.out g5 x (fun _ _ => rfl) (hS.go rfl)
          apply LinAll.cons0
          · intro g5 L5 a5 x hLi haft hS hK; have t52 := hK.new 8 4 _ 52 _ rfl rfl rfl (by kernel_rfl) (waits haft 8 (by kernel_rfl)); have t56 := hK.new 12 0 _ 56 _ rfl rfl rfl (by kernel_rfl) (waits haft 12 (by kernel_rfl)); (try dsimp only at t52 t56); refine go_in (wanted_all rfl) ?_; intro K hk; clear haft hK hLi; go_simp; exact hk.out g5 x (fun _ _ => rfl) (hS.go rfl)
          apply LinAll.cons0
          · intro g5 L5 a5 x hLi haft hS hK; have t57 := hK.new 13 0 _ 57 _ rfl rfl rfl (by kernel_rfl) (waits haft 13 (by kernel_rfl)); (try dsimp only at t57); refine go_in (wanted_all rfl) ?_; intro K hk; clear haft hK hLi; go_simp; exact hk.out g5 x (fun _ _ => rfl) (hS.go rfl)
          apply LinAll.cons0
          · intro g5 L5 a5 x hLi haft hS hK; have t5 := (hK.old 5 (by kernel_rfl)).trans o5; have tg := hK.new 14 0 _ 58 _ rfl rfl rfl (by kernel_rfl) (waits haft 14 (by kernel_rfl)); (try dsimp only at t5); refine go_in (wanted_at rfl rfl rfl tg rfl) ?_; intro K hk; clear haft hK tg hLi; go_simp; exact hk.out g5 x (fun _ _ => rfl) (hS.go rfl)
          apply LinAll.cons0
          · intro g5 L5 a5 x hLi haft hS hK; have t8 := (hK.old 8 (by kernel_rfl)).trans o8; have tg := hK.new 14 1 _ 58 _ rfl rfl rfl (by kernel_rfl) (waits haft 14 (by kernel_rfl)); (try dsimp only at t8); refine go_in (wanted_at rfl rfl rfl tg rfl) ?_; intro K hk; clear haft hK tg hLi; go_simp; exact hk.out g5 x (fun _ _ => rfl) (hS.go rfl)
          apply LinAll.cons0
          · intro g5 L5 a5 x hLi haft hS hK; have t60 := hK.new 16 0 _ 60 _ rfl rfl rfl (by kernel_rfl) (waits haft 16 (by kernel_rfl)); have tg := hK.new 14 2 _ 58 _ rfl rfl rfl (by kernel_rfl) (waits haft 14 (by kernel_rfl)); (try dsimp only at t60); refine go_in (wanted_at rfl rfl rfl tg rfl) ?_; intro K hk; obtain ⟨e1, e2⟩ := HCU.out x hS.kp; have e3 := hS.at A hAI (by omega); have e4 := hS.at B1 hBI (by omega); rw [efA] at e3; rw [efB] at e4; clear haft hK tg hLi; go_simp; exact hk.out g5 x (fun _ _ => rfl) (hS.go rfl)
          apply LinAll.cons0
          · intro g5 L5 a5 x hLi haft hS hK; have t61 := hK.new 17 0 _ 61 _ rfl rfl rfl (by kernel_rfl) (waits haft 17 (by kernel_rfl)); have tg := hK.new 14 3 _ 58 _ rfl rfl rfl (by kernel_rfl) (waits haft 14 (by kernel_rfl)); (try dsimp only at t61); refine go_in (wanted_at rfl rfl rfl tg rfl) ?_; intro K hk; clear haft hK tg hLi; go_simp; exact hk.out g5 x (fun _ _ => rfl) (hS.go rfl)
          apply LinAll.cons0
          · intro g5 L5 a5 x hLi haft hS hK; have t59 := hK.new 15 3 _ 59 _ rfl rfl rfl (by kernel_rfl) (waits haft 15 (by kernel_rfl)); have t62 := hK.new 18 0 _ 62 _ rfl rfl rfl (by kernel_rfl) (waits haft 18 (by kernel_rfl)); have tg := hK.new 14 4 _ 58 _ rfl rfl rfl (by kernel_rfl) (waits haft 14 (by kernel_rfl)); (try dsimp only at t59 t62); refine go_in (wanted_at rfl rfl rfl tg rfl) ?_; intro K hk; clear haft hK tg hLi; go_simp; exact hk.out g5 x (fun _ _ => rfl) (hS.go rfl)
          apply LinAll.cons0
          · intro g5 L5 a5 x hLi haft hS hK; have t63 := hK.new 19 0 _ 63 _ rfl rfl rfl (by kernel_rfl) (waits haft 19 (by kernel_rfl)); have tg := hK.new 14 5 _ 58 _ rfl rfl rfl (by kernel_rfl) (waits haft 14 (by kernel_rfl)); (try dsimp only at t63); refine go_in (wanted_at rfl rfl rfl tg rfl) ?_; intro K hk; obtain ⟨e1, e2⟩ := HCU.out x hS.kp; have e3 := hS.at A hAI (by omega); have e4 := hS.at B1 hBI (by omega); rw [efA] at e3; rw [efB] at e4; clear haft hK tg hLi; go_simp; exact hk.out g5 x (fun _ _ => rfl) (hS.go rfl)
          apply LinAll.cons0
          · intro g5 L5 a5 x hLi haft hS hK; have t8 := (hK.old 8 (by kernel_rfl)).trans o8; have tg := hK.new 14 6 _ 58 _ rfl rfl rfl (by kernel_rfl) (waits haft 14 (by kernel_rfl)); (try dsimp only at t8); refine go_in (wanted_at rfl rfl rfl tg rfl) ?_; intro K hk; clear haft hK tg hLi; go_simp; exact hk.out g5 x (fun _ _ => rfl) (hS.go rfl)
          apply LinAll.cons0
          · intro g5 L5 a5 x hLi haft hS hK; have t65 := hK.new 21 0 _ 65 _ rfl rfl rfl (by kernel_rfl) (waits haft 21 (by kernel_rfl)); have tg := hK.new 14 7 _ 58 _ rfl rfl rfl (by kernel_rfl) (waits haft 14 (by kernel_rfl)); (try dsimp only at t65); refine go_in (wanted_at rfl rfl rfl tg rfl) ?_; intro K hk; obtain ⟨e1, e2⟩ := HCU.out x hS.kp; have e3 := hS.at A hAI (by omega); have e4 := hS.at B1 hBI (by omega); rw [efA] at e3; rw [efB] at e4; clear haft hK tg hLi; go_simp; exact hk.out g5 x (fun _ _ => rfl) (hS.go rfl)
          apply LinAll.cons0
          · intro g5 L5 a5 x hLi haft hS hK; have t66 := hK.new 22 0 _ 66 _ rfl rfl rfl (by kernel_rfl) (waits haft 22 (by kernel_rfl)); have tg := hK.new 14 8 _ 58 _ rfl rfl rfl (by kernel_rfl) (waits haft 14 (by kernel_rfl)); (try dsimp only at t66); refine go_in (wanted_at rfl rfl rfl tg rfl) ?_; intro K hk; clear haft hK tg hLi; go_simp; exact hk.out g5 x (fun _ _ => rfl) (hS.go rfl)
          apply LinAll.cons0
          · intro g5 L5 a5 x hLi haft hS hK; have t67 := hK.new 23 0 _ 67 _ rfl rfl rfl (by kernel_rfl) (waits haft 23 (by kernel_rfl)); have tg := hK.new 14 9 _ 58 _ rfl rfl rfl (by kernel_rfl) (waits haft 14 (by kernel_rfl)); (try dsimp only at t67); refine go_in (wanted_at rfl rfl rfl tg rfl) ?_; intro K hk; clear haft hK tg hLi; go_simp; exact hk.out g5 x (fun _ _ => rfl) (hS.go rfl)
          apply LinAll.cons0
          · intro g5 L5 a5 x hLi haft hS hK; have t64 := hK.new 20 4 _ 64 _ rfl rfl rfl (by kernel_rfl) (waits haft 20 (by kernel_rfl)); have t68 := hK.new 24 0 _ 68 _ rfl rfl rfl (by kernel_rfl) (waits haft 24 (by kernel_rfl)); have tg := hK.new 14 10 _ 58 _ rfl rfl rfl (by kernel_rfl) (waits haft 14 (by kernel_rfl)); (try dsimp only at t64 t68); refine go_in (wanted_at rfl rfl rfl tg rfl) ?_; intro K hk; clear haft hK tg hLi; go_simp; exact hk.out g5 x (fun _ _ => rfl) (hS.go rfl)
          apply LinAll.cons0
          · intro g5 L5 a5 x hLi haft hS hK; have t58 := hK.new 14 11 _ 58 _ rfl rfl rfl (by kernel_rfl) (waits haft 14 (by kernel_rfl)); have t69 := hK.new 25 0 _ 69 _ rfl rfl rfl (by kernel_rfl) (waits haft 25 (by kernel_rfl)); (try dsimp only at t58 t69); refine go_in (wanted_all rfl) ?_; intro K hk; clear haft hK hLi; go_simp; exact hk.out g5 x (fun _ _ => rfl) (hS.go rfl)
          apply LinAll.cons0
          · intro g5 L5 a5 x hLi haft hS hK; have t44 := hK.new 0 26 _ 44 _ rfl rfl rfl (by kernel_rfl) (waits haft 0 (by kernel_rfl)); have t46 := hK.new 2 24 _ 46 _ rfl rfl rfl (by kernel_rfl) (waits haft 2 (by kernel_rfl)); (try dsimp only at t44 t46); refine go_in (wanted_all rfl) ?_; intro K hk; clear haft hK hLi; go_simp; exact hk.out g5 x (fun _ _ => rfl) (hS.go rfl)
          refine LinAll.cons0 (v := fun _ => undef) ?_ ?_
          · intro g5 L5 a5 x hLi haft hS hK; have t70 := hK.new 26 1 _ 70 _ rfl rfl rfl (by kernel_rfl) (waits haft 26 (by kernel_rfl)); have t71 := hK.new 27 0 _ 71 _ rfl rfl rfl (by kernel_rfl) (waits haft 27 (by kernel_rfl)); (try dsimp only at t70 t71); refine go_in (wanted_all rfl) ?_; intro K hk; have m1 := hS.row.cell (show k + 1 < I by omega); have m2 := hS.row.frozen (k + 1); have hN := hS.st hLi; clear haft hK hLi hS; go_simp; exact hk.out g5 _ (fun _ _ => rfl) hN
          refine LinAll.nil fun g5 x hS => ?_
          subst ha0
          simp only [Act.put, List.setIfInBounds_toArray, List.set_cons_zero, List.set_cons_succ]
          clear o5 o7 o8
          have HS : Hid _ := hS
          clear hS
          go_wp2_with fail
          refine ⟨⟨k + 1, by omega, by go_num, by rw [HTK.out]; rfl, ?_, by rw [HS.out.sz]; omega, ?_⟩, by simp [intOf]; omega⟩
          · refine HS.out.row.congr fun j _ => ?_
            exact (HNX.out j).symm
          · exact hbU.trans ⟨HS.out.os, HS.out.tape, HS.out.output, Nat.le_of_eq HS.out.sz.symm, fun q hq => HS.out.kp q (by omega)⟩
        · have HNX : Hid _ := HNX0.out _ (by first | (rw [HX1.out, HX2.out]; done) | (rw [HX1.out, HX2.out]; rfl) | simp [HX1.out, HX2.out])
          refine wp_named fun a0 ha0 => ?_
          have o5 := old_at ha0 (t := 5) rfl
          have o7 := old_at ha0 (t := 7) rfl
          have o8 := old_at ha0 (t := 8) rfl
          refine wp_region_lin (S := VS wU w.heap.size I (k + 1) (!(fB == z2)) f) [] (fun _ => 0) (by kernel_rfl) (by kernel_rfl) (by rw [← ha0]; kernel_rfl) (VS.start HRU.out) ?_
          apply LinAll.cons0
          · intro g5 L5 a5 x hLi haft hS hK; have t5 := (hK.old 5 (by kernel_rfl)).trans o5; (try dsimp only at t5); refine go_in (wanted_all rfl) ?_; intro K hk; clear haft hK hLi; go_simp; exact hk.out g5 x (fun _ _ => rfl) (hS.go rfl)
          apply LinAll.cons0
          · intro g5 L5 a5 x hLi haft hS hK; have t7 := (hK.old 7 (by kernel_rfl)).trans o7; (try dsimp only at t7); refine go_in (wanted_all rfl) ?_; intro K hk; clear haft hK hLi; go_simp; exact hk.out g5 x (fun _ _ => rfl) (hS.go rfl)
          apply LinAll.cons0
          · intro g5 L5 a5 x hLi haft hS hK; have t45 := hK.new 1 0 _ 45 _ rfl rfl rfl (by kernel_rfl) (waits haft 1 (by kernel_rfl)); (try dsimp only at t45); refine go_in (wanted_all rfl) ?_; intro K hk; clear haft hK hLi; go_simp; exact hk.out g5 x (fun _ _ => rfl) (hS.go rfl)
          apply LinAll.cons0
          · intro g5 L5 a5 x hLi haft hS hK; have t5 := (hK.old 5 (by kernel_rfl)).trans o5; (try dsimp only at t5); refine go_in (wanted_all rfl) ?_; intro K hk; clear haft hK hLi; go_simp; exact hk.out g5 x (fun _ _ => rfl) (hS.go rfl)
          apply LinAll.cons0
          · intro g5 L5 a5 x hLi haft hS hK; have t8 := (hK.old 8 (by kernel_rfl)).trans o8; (try dsimp only at t8); refine go_in (wanted_all rfl) ?_; intro K hk; clear haft hK hLi; go_simp; exact hk.out g5 x (fun _ _ => rfl) (hS.go rfl)
          apply LinAll.cons0
          · intro g5 L5 a5 x hLi haft hS hK; have t48 := hK.new 4 0 _ 48 _ rfl rfl rfl (by kernel_rfl) (waits haft 4 (by kernel_rfl)); (try dsimp only at t48); refine go_in (wanted_all rfl) ?_; intro K hk; obtain ⟨e1, e2⟩ := HCU.out x hS.kp; have e3 := hS.at A hAI (by omega); have e4 := hS.at B1 hBI (by omega); rw [efA] at e3; rw [efB] at e4; clear haft hK hLi; go_simp; exact hk.out g5 x (fun _ _ => rfl) (hS.go rfl)
          apply LinAll.cons0
          · intro g5 L5 a5 x hLi haft hS hK; have t49 := hK.new 5 0 _ 49 _ rfl rfl rfl (by kernel_rfl) (waits haft 5 (by kernel_rfl)); (try dsimp only at t49); refine go_in (wanted_all rfl) ?_; intro K hk; clear haft hK hLi; go_simp; exact hk.out g5 x (fun _ _ => rfl) (hS.go rfl)
          apply LinAll.cons0
          · intro g5 L5 a5 x hLi haft hS hK; have t47 := hK.new 3 3 _ 47 _ rfl rfl rfl (by kernel_rfl) (waits haft 3 (by kernel_rfl)); have t50 := hK.new 6 0 _ 50 _ rfl rfl rfl (by kernel_rfl) (waits haft 6 (by kernel_rfl)); (try dsimp only at t47 t50); refine go_in (wanted_all rfl) ?_; intro K hk; clear haft hK hLi; go_simp; exact hk.out g5 x (fun _ _ => rfl) (hS.go rfl)
          apply LinAll.cons0
          · intro g5 L5 a5 x hLi haft hS hK; have t51 := hK.new 7 0 _ 51 _ rfl rfl rfl (by kernel_rfl) (waits haft 7 (by kernel_rfl)); (try dsimp only at t51); refine go_in (wanted_all rfl) ?_; intro K hk; obtain ⟨e1, e2⟩ := HCU.out x hS.kp; have e3 := hS.at A hAI (by omega); have e4 := hS.at B1 hBI (by omega); rw [efA] at e3; rw [efB] at e4; clear haft hK hLi; go_simp; exact hk.out g5 x (fun _ _ => rfl) (hS.go rfl)
          apply LinAll.cons0
          · intro g5 L5 a5 x hLi haft hS hK; have t8 := (hK.old 8 (by kernel_rfl)).trans o8; (try dsimp only at t8); refine go_in (wanted_all rfl) ?_; intro K hk; clear haft hK hLi; go_simp; exact hk.out g5 x (fun _ _ => rfl) (hS.go rfl)
          apply LinAll.cons0
          · intro g5 L5 a5 x hLi haft hS hK; have t53 := hK.new 9 0 _ 53 _ rfl rfl rfl (by kernel_rfl) (waits haft 9 (by kernel_rfl)); (try dsimp only at t53); refine go_in (wanted_all rfl) ?_; intro K hk; obtain ⟨e1, e2⟩ := HCU.out x hS.kp; have e3 := hS.at A hAI (by omega); have e4 := hS.at B1 hBI (by omega); rw [efA] at e3; rw [efB] at e4; clear haft hK hLi; go_simp; exact hk.out g5 x (fun _ _ => rfl) (hS.go rfl)
          apply LinAll.cons0
          · intro g5 L5 a5 x hLi haft hS hK; have t54 := hK.new 10 0 _ 54 _ rfl rfl rfl (by kernel_rfl) (waits haft 10 (by kernel_rfl)); (try dsimp only at t54); refine go_in (wanted_all rfl) ?_; intro K hk; clear haft hK hLi; go_simp; exact hk.out g5 x (fun _ _ => rfl) (hS.go rfl)
          apply LinAll.cons0
          · intro g5 L5 a5 x hLi haft hS hK; have t55 := hK.new 11 0 _ 55 _ rfl rfl rfl (by kernel_rfl) (waits haft 11 (by kernel_rfl)); (try dsimp only at t55); refine go_in (wanted_all rfl) ?_; intro K hk; clear haft hK hLi; go_simp; exact hk.out g5 x (fun _ _ => rfl) (hS.go rfl)
          apply LinAll.cons0
          · intro g5 L5 a5 x hLi haft hS hK; have t52 := hK.new 8 4 _ 52 _ rfl rfl rfl (by kernel_rfl) (waits haft 8 (by kernel_rfl)); have t56 := hK.new 12 0 _ 56 _ rfl rfl rfl (by kernel_rfl) (waits haft 12 (by kernel_rfl)); (try dsimp only at t52 t56); refine go_in (wanted_all rfl) ?_; intro K hk; clear haft hK hLi; go_simp; exact hk.out g5 x (fun _ _ => rfl) (hS.go rfl)
          apply LinAll.cons0
          · intro g5 L5 a5 x hLi haft hS hK; have t57 := hK.new 13 0 _ 57 _ rfl rfl rfl (by kernel_rfl) (waits haft 13 (by kernel_rfl)); (try dsimp only at t57); refine go_in (wanted_all rfl) ?_; intro K hk; clear haft hK hLi; go_simp; exact hk.out g5 x (fun _ _ => rfl) (hS.go rfl)
          apply LinAll.cons0
          · intro g5 L5 a5 x hLi haft hS hK; have t5 := (hK.old 5 (by kernel_rfl)).trans o5; have tg := hK.new 14 0 _ 58 _ rfl rfl rfl (by kernel_rfl) (waits haft 14 (by kernel_rfl)); (try dsimp only at t5); refine go_in (wanted_at rfl rfl rfl tg rfl) ?_; intro K hk; clear haft hK tg hLi; go_simp; exact hk.out g5 x (fun _ _ => rfl) (hS.go rfl)
          apply LinAll.cons0
          · intro g5 L5 a5 x hLi haft hS hK; have t8 := (hK.old 8 (by kernel_rfl)).trans o8; have tg := hK.new 14 1 _ 58 _ rfl rfl rfl (by kernel_rfl) (waits haft 14 (by kernel_rfl)); (try dsimp only at t8); refine go_in (wanted_at rfl rfl rfl tg rfl) ?_; intro K hk; clear haft hK tg hLi; go_simp; exact hk.out g5 x (fun _ _ => rfl) (hS.go rfl)
          apply LinAll.cons0
          · intro g5 L5 a5 x hLi haft hS hK; have t60 := hK.new 16 0 _ 60 _ rfl rfl rfl (by kernel_rfl) (waits haft 16 (by kernel_rfl)); have tg := hK.new 14 2 _ 58 _ rfl rfl rfl (by kernel_rfl) (waits haft 14 (by kernel_rfl)); (try dsimp only at t60); refine go_in (wanted_at rfl rfl rfl tg rfl) ?_; intro K hk; obtain ⟨e1, e2⟩ := HCU.out x hS.kp; have e3 := hS.at A hAI (by omega); have e4 := hS.at B1 hBI (by omega); rw [efA] at e3; rw [efB] at e4; clear haft hK tg hLi; go_simp; exact hk.out g5 x (fun _ _ => rfl) (hS.go rfl)
          apply LinAll.cons0
          · intro g5 L5 a5 x hLi haft hS hK; have t61 := hK.new 17 0 _ 61 _ rfl rfl rfl (by kernel_rfl) (waits haft 17 (by kernel_rfl)); have tg := hK.new 14 3 _ 58 _ rfl rfl rfl (by kernel_rfl) (waits haft 14 (by kernel_rfl)); (try dsimp only at t61); refine go_in (wanted_at rfl rfl rfl tg rfl) ?_; intro K hk; clear haft hK tg hLi; go_simp; exact hk.out g5 x (fun _ _ => rfl) (hS.go rfl)
          apply LinAll.cons0
          · intro g5 L5 a5 x hLi haft hS hK; have t59 := hK.new 15 3 _ 59 _ rfl rfl rfl (by kernel_rfl) (waits haft 15 (by kernel_rfl)); have t62 := hK.new 18 0 _ 62 _ rfl rfl rfl (by kernel_rfl) (waits haft 18 (by kernel_rfl)); have tg := hK.new 14 4 _ 58 _ rfl rfl rfl (by kernel_rfl) (waits haft 14 (by kernel_rfl)); (try dsimp only at t59 t62); refine go_in (wanted_at rfl rfl rfl tg rfl) ?_; intro K hk; clear haft hK tg hLi; go_simp; exact hk.out g5 x (fun _ _ => rfl) (hS.go rfl)
          apply LinAll.cons0
          · intro g5 L5 a5 x hLi haft hS hK; have t63 := hK.new 19 0 _ 63 _ rfl rfl rfl (by kernel_rfl) (waits haft 19 (by kernel_rfl)); have tg := hK.new 14 5 _ 58 _ rfl rfl rfl (by kernel_rfl) (waits haft 14 (by kernel_rfl)); (try dsimp only at t63); refine go_in (wanted_at rfl rfl rfl tg rfl) ?_; intro K hk; obtain ⟨e1, e2⟩ := HCU.out x hS.kp; have e3 := hS.at A hAI (by omega); have e4 := hS.at B1 hBI (by omega); rw [efA] at e3; rw [efB] at e4; clear haft hK tg hLi; go_simp; exact hk.out g5 x (fun _ _ => rfl) (hS.go rfl)
          apply LinAll.cons0
          · intro g5 L5 a5 x hLi haft hS hK; have t8 := (hK.old 8 (by kernel_rfl)).trans o8; have tg := hK.new 14 6 _ 58 _ rfl rfl rfl (by kernel_rfl) (waits haft 14 (by kernel_rfl)); (try dsimp only at t8); refine go_in (wanted_at rfl rfl rfl tg rfl) ?_; intro K hk; clear haft hK tg hLi; go_simp; exact hk.out g5 x (fun _ _ => rfl) (hS.go rfl)
          apply LinAll.cons0
          · intro g5 L5 a5 x hLi haft hS hK; have t65 := hK.new 21 0 _ 65 _ rfl rfl rfl (by kernel_rfl) (waits haft 21 (by kernel_rfl)); have tg := hK.new 14 7 _ 58 _ rfl rfl rfl (by kernel_rfl) (waits haft 14 (by kernel_rfl)); (try dsimp only at t65); refine go_in (wanted_at rfl rfl rfl tg rfl) ?_; intro K hk; obtain ⟨e1, e2⟩ := HCU.out x hS.kp; have e3 := hS.at A hAI (by omega); have e4 := hS.at B1 hBI (by omega); rw [efA] at e3; rw [efB] at e4; clear haft hK tg hLi; go_simp; exact hk.out g5 x (fun _ _ => rfl) (hS.go rfl)
          apply LinAll.cons0
          · intro g5 L5 a5 x hLi haft hS hK; have t66 := hK.new 22 0 _ 66 _ rfl rfl rfl (by kernel_rfl) (waits haft 22 (by kernel_rfl)); have tg := hK.new 14 8 _ 58 _ rfl rfl rfl (by kernel_rfl) (waits haft 14 (by kernel_rfl)); (try dsimp only at t66); refine go_in (wanted_at rfl rfl rfl tg rfl) ?_; intro K hk; clear haft hK tg hLi; go_simp; exact hk.out g5 x (fun _ _ => rfl) (hS.go rfl)
          apply LinAll.cons0
          · intro g5 L5 a5 x hLi haft hS hK; have t67 := hK.new 23 0 _ 67 _ rfl rfl rfl (by kernel_rfl) (waits haft 23 (by kernel_rfl)); have tg := hK.new 14 9 _ 58 _ rfl rfl rfl (by kernel_rfl) (waits haft 14 (by kernel_rfl)); (try dsimp only at t67); refine go_in (wanted_at rfl rfl rfl tg rfl) ?_; intro K hk; clear haft hK tg hLi; go_simp; exact hk.out g5 x (fun _ _ => rfl) (hS.go rfl)
          apply LinAll.cons0
          · intro g5 L5 a5 x hLi haft hS hK; have t64 := hK.new 20 4 _ 64 _ rfl rfl rfl (by kernel_rfl) (waits haft 20 (by kernel_rfl)); have t68 := hK.new 24 0 _ 68 _ rfl rfl rfl (by kernel_rfl) (waits haft 24 (by kernel_rfl)); have tg := hK.new 14 10 _ 58 _ rfl rfl rfl (by kernel_rfl) (waits haft 14 (by kernel_rfl)); (try dsimp only at t64 t68); refine go_in (wanted_at rfl rfl rfl tg rfl) ?_; intro K hk; clear haft hK tg hLi; go_simp; exact hk.out g5 x (fun _ _ => rfl) (hS.go rfl)
          apply LinAll.cons0
          · intro g5 L5 a5 x hLi haft hS hK; have t58 := hK.new 14 11 _ 58 _ rfl rfl rfl (by kernel_rfl) (waits haft 14 (by kernel_rfl)); have t69 := hK.new 25 0 _ 69 _ rfl rfl rfl (by kernel_rfl) (waits haft 25 (by kernel_rfl)); (try dsimp only at t58 t69); refine go_in (wanted_all rfl) ?_; intro K hk; clear haft hK hLi; go_simp; exact hk.out g5 x (fun _ _ => rfl) (hS.go rfl)
          apply LinAll.cons0
          · intro g5 L5 a5 x hLi haft hS hK; have t44 := hK.new 0 26 _ 44 _ rfl rfl rfl (by kernel_rfl) (waits haft 0 (by kernel_rfl)); have t46 := hK.new 2 24 _ 46 _ rfl rfl rfl (by kernel_rfl) (waits haft 2 (by kernel_rfl)); (try dsimp only at t44 t46); refine go_in (wanted_all rfl) ?_; intro K hk; clear haft hK hLi; go_simp; exact hk.out g5 x (fun _ _ => rfl) (hS.go rfl)
          refine LinAll.cons0 (v := fun _ => undef) ?_ ?_
          · intro g5 L5 a5 x hLi haft hS hK; have t70 := hK.new 26 1 _ 70 _ rfl rfl rfl (by kernel_rfl) (waits haft 26 (by kernel_rfl)); have t71 := hK.new 27 0 _ 71 _ rfl rfl rfl (by kernel_rfl) (waits haft 27 (by kernel_rfl)); (try dsimp only at t70 t71); refine go_in (wanted_all rfl) ?_; intro K hk; have m1 := hS.row.cell (show k + 1 < I by omega); have m2 := hS.row.frozen (k + 1); have hN := hS.st hLi; clear haft hK hLi hS; go_simp; exact hk.out g5 _ (fun _ _ => rfl) hN
          refine LinAll.nil fun g5 x hS => ?_
          subst ha0
          simp only [Act.put, List.setIfInBounds_toArray, List.set_cons_zero, List.set_cons_succ]
          clear o5 o7 o8
          have HS : Hid _ := hS
          clear hS
          go_wp2_with fail
          refine ⟨⟨k + 1, by omega, by go_num, by rw [HTK.out]; rfl, ?_, by rw [HS.out.sz]; omega, ?_⟩, by simp [intOf]; omega⟩
          · refine HS.out.row.congr fun j _ => ?_
            exact (HNX.out j).symm
          · exact hbU.trans ⟨HS.out.os, HS.out.tape, HS.out.output, Nat.le_of_eq HS.out.sz.symm, fun q hq => HS.out.kp q (by omega)⟩
        · have HNX : Hid _ := HNX0.out _ (by first | (rw [HX1.out, HX2.out]; done) | (rw [HX1.out, HX2.out]; rfl) | simp [HX1.out, HX2.out])
          refine wp_named fun a0 ha0 => ?_
          have o5 := old_at ha0 (t := 5) rfl
          have o7 := old_at ha0 (t := 7) rfl
          have o8 := old_at ha0 (t := 8) rfl
          refine wp_region_lin (S := VS wU w.heap.size I (k + 1) false f) [] (fun _ => 0) (by kernel_rfl) (by kernel_rfl) (by rw [← ha0]; kernel_rfl) (VS.start HRU.out) ?_
          apply LinAll.cons0
          · intro g5 L5 a5 x hLi haft hS hK; have t5 := (hK.old 5 (by kernel_rfl)).trans o5; (try dsimp only at t5); refine go_in (wanted_all rfl) ?_; intro K hk; clear haft hK hLi; go_simp; exact hk.out g5 x (fun _ _ => rfl) (hS.go rfl)
          apply LinAll.cons0
          · intro g5 L5 a5 x hLi haft hS hK; have t7 := (hK.old 7 (by kernel_rfl)).trans o7; (try dsimp only at t7); refine go_in (wanted_all rfl) ?_; intro K hk; clear haft hK hLi; go_simp; exact hk.out g5 x (fun _ _ => rfl) (hS.go rfl)
          apply LinAll.cons0
          · intro g5 L5 a5 x hLi haft hS hK; have t45 := hK.new 1 0 _ 45 _ rfl rfl rfl (by kernel_rfl) (waits haft 1 (by kernel_rfl)); (try dsimp only at t45); refine go_in (wanted_all rfl) ?_; intro K hk; clear haft hK hLi; go_simp; exact hk.out g5 x (fun _ _ => rfl) (hS.go rfl)
          apply LinAll.cons0
          · intro g5 L5 a5 x hLi haft hS hK; have t5 := (hK.old 5 (by kernel_rfl)).trans o5; (try dsimp only at t5); refine go_in (wanted_all rfl) ?_; intro K hk; clear haft hK hLi; go_simp; exact hk.out g5 x (fun _ _ => rfl) (hS.go rfl)
          apply LinAll.cons0
          · intro g5 L5 a5 x hLi haft hS hK; have t8 := (hK.old 8 (by kernel_rfl)).trans o8; (try dsimp only at t8); refine go_in (wanted_all rfl) ?_; intro K hk; clear haft hK hLi; go_simp; exact hk.out g5 x (fun _ _ => rfl) (hS.go rfl)
          apply LinAll.cons0
          · intro g5 L5 a5 x hLi haft hS hK; have t48 := hK.new 4 0 _ 48 _ rfl rfl rfl (by kernel_rfl) (waits haft 4 (by kernel_rfl)); (try dsimp only at t48); refine go_in (wanted_all rfl) ?_; intro K hk; obtain ⟨e1, e2⟩ := HCU.out x hS.kp; have e3 := hS.at A hAI (by omega); have e4 := hS.at B1 hBI (by omega); rw [efA] at e3; rw [efB] at e4; clear haft hK hLi; go_simp; exact hk.out g5 x (fun _ _ => rfl) (hS.go rfl)
          apply LinAll.cons0
          · intro g5 L5 a5 x hLi haft hS hK; have t49 := hK.new 5 0 _ 49 _ rfl rfl rfl (by kernel_rfl) (waits haft 5 (by kernel_rfl)); (try dsimp only at t49); refine go_in (wanted_all rfl) ?_; intro K hk; clear haft hK hLi; go_simp; exact hk.out g5 x (fun _ _ => rfl) (hS.go rfl)
          apply LinAll.cons0
          · intro g5 L5 a5 x hLi haft hS hK; have t47 := hK.new 3 3 _ 47 _ rfl rfl rfl (by kernel_rfl) (waits haft 3 (by kernel_rfl)); have t50 := hK.new 6 0 _ 50 _ rfl rfl rfl (by kernel_rfl) (waits haft 6 (by kernel_rfl)); (try dsimp only at t47 t50); refine go_in (wanted_all rfl) ?_; intro K hk; clear haft hK hLi; go_simp; exact hk.out g5 x (fun _ _ => rfl) (hS.go rfl)
          apply LinAll.cons0
          · intro g5 L5 a5 x hLi haft hS hK; have t51 := hK.new 7 0 _ 51 _ rfl rfl rfl (by kernel_rfl) (waits haft 7 (by kernel_rfl)); (try dsimp only at t51); refine go_in (wanted_all rfl) ?_; intro K hk; obtain ⟨e1, e2⟩ := HCU.out x hS.kp; have e3 := hS.at A hAI (by omega); have e4 := hS.at B1 hBI (by omega); rw [efA] at e3; rw [efB] at e4; clear haft hK hLi; go_simp; exact hk.out g5 x (fun _ _ => rfl) (hS.go rfl)
          apply LinAll.cons0
          · intro g5 L5 a5 x hLi haft hS hK; have t8 := (hK.old 8 (by kernel_rfl)).trans o8; (try dsimp only at t8); refine go_in (wanted_all rfl) ?_; intro K hk; clear haft hK hLi; go_simp; exact hk.out g5 x (fun _ _ => rfl) (hS.go rfl)
          apply LinAll.cons0
          · intro g5 L5 a5 x hLi haft hS hK; have t53 := hK.new 9 0 _ 53 _ rfl rfl rfl (by kernel_rfl) (waits haft 9 (by kernel_rfl)); (try dsimp only at t53); refine go_in (wanted_all rfl) ?_; intro K hk; obtain ⟨e1, e2⟩ := HCU.out x hS.kp; have e3 := hS.at A hAI (by omega); have e4 := hS.at B1 hBI (by omega); rw [efA] at e3; rw [efB] at e4; clear haft hK hLi; go_simp; exact hk.out g5 x (fun _ _ => rfl) (hS.go rfl)
          apply LinAll.cons0
          · intro g5 L5 a5 x hLi haft hS hK; have t54 := hK.new 10 0 _ 54 _ rfl rfl rfl (by kernel_rfl) (waits haft 10 (by kernel_rfl)); (try dsimp only at t54); refine go_in (wanted_all rfl) ?_; intro K hk; clear haft hK hLi; go_simp; exact hk.out g5 x (fun _ _ => rfl) (hS.go rfl)
          apply LinAll.cons0
          · intro g5 L5 a5 x hLi haft hS hK; have t55 := hK.new 11 0 _ 55 _ rfl rfl rfl (by kernel_rfl) (waits haft 11 (by kernel_rfl)); (try dsimp only at t55); refine go_in (wanted_all rfl) ?_; intro K hk; clear haft hK hLi; go_simp; exact hk.out g5 x (fun _ _ => rfl) (hS.go rfl)
          apply LinAll.cons0
          · intro g5 L5 a5 x hLi haft hS hK; have t52 := hK.new 8 4 _ 52 _ rfl rfl rfl (by kernel_rfl) (waits haft 8 (by kernel_rfl)); have t56 := hK.new 12 0 _ 56 _ rfl rfl rfl (by kernel_rfl) (waits haft 12 (by kernel_rfl)); (try dsimp only at t52 t56); refine go_in (wanted_all rfl) ?_; intro K hk; clear haft hK hLi; go_simp; exact hk.out g5 x (fun _ _ => rfl) (hS.go rfl)
          apply LinAll.cons0
          · intro g5 L5 a5 x hLi haft hS hK; have t57 := hK.new 13 0 _ 57 _ rfl rfl rfl (by kernel_rfl) (waits haft 13 (by kernel_rfl)); (try dsimp only at t57); refine go_in (wanted_all rfl) ?_; intro K hk; clear haft hK hLi; go_simp; exact hk.out g5 x (fun _ _ => rfl) (hS.go rfl)
          refine LinAll.cons0 (v := fun _ => undef) ?_ ?_
          · intro g5 L5 a5 x hLi haft hS hK; have t5 := (hK.old 5 (by kernel_rfl)).trans o5; have tg := hK.new 14 0 _ 58 _ rfl rfl rfl (by kernel_rfl) (waits haft 14 (by kernel_rfl)); (try dsimp only at t5); exact go_out (wanted_at rfl rfl rfl tg rfl) ⟨rfl, hS.go rfl⟩
          refine LinAll.cons0 (v := fun _ => undef) ?_ ?_
          · intro g5 L5 a5 x hLi haft hS hK; have t8 := (hK.old 8 (by kernel_rfl)).trans o8; have tg := hK.new 14 1 _ 58 _ rfl rfl rfl (by kernel_rfl) (waits haft 14 (by kernel_rfl)); (try dsimp only at t8); exact go_out (wanted_at rfl rfl rfl tg rfl) ⟨rfl, hS.go rfl⟩
          refine LinAll.cons0 (v := fun _ => undef) ?_ ?_
          · intro g5 L5 a5 x hLi haft hS hK; have t60 := hK.new 16 0 _ 60 _ rfl rfl rfl (by kernel_rfl) (waits haft 16 (by kernel_rfl)); have tg := hK.new 14 2 _ 58 _ rfl rfl rfl (by kernel_rfl) (waits haft 14 (by kernel_rfl)); (try dsimp only at t60); exact go_out (wanted_at rfl rfl rfl tg rfl) ⟨rfl, hS.go rfl⟩
          refine LinAll.cons0 (v := fun _ => undef) ?_ ?_
          · intro g5 L5 a5 x hLi haft hS hK; have t61 := hK.new 17 0 _ 61 _ rfl rfl rfl (by kernel_rfl) (waits haft 17 (by kernel_rfl)); have tg := hK.new 14 3 _ 58 _ rfl rfl rfl (by kernel_rfl) (waits haft 14 (by kernel_rfl)); (try dsimp only at t61); exact go_out (wanted_at rfl rfl rfl tg rfl) ⟨rfl, hS.go rfl⟩
          refine LinAll.cons0 (v := fun _ => undef) ?_ ?_
          · intro g5 L5 a5 x hLi haft hS hK; have t59 := hK.new 15 3 _ 59 _ rfl rfl rfl (by kernel_rfl) (waits haft 15 (by kernel_rfl)); have t62 := hK.new 18 0 _ 62 _ rfl rfl rfl (by kernel_rfl) (waits haft 18 (by kernel_rfl)); have tg := hK.new 14 4 _ 58 _ rfl rfl rfl (by kernel_rfl) (waits haft 14 (by kernel_rfl)); (try dsimp only at t59 t62); exact go_out (wanted_at rfl rfl rfl tg rfl) ⟨rfl, hS.go rfl⟩
          refine LinAll.cons0 (v := fun _ => undef) ?_ ?_
          · intro g5 L5 a5 x hLi haft hS hK; have t63 := hK.new 19 0 _ 63 _ rfl rfl rfl (by kernel_rfl) (waits haft 19 (by kernel_rfl)); have tg := hK.new 14 5 _ 58 _ rfl rfl rfl (by kernel_rfl) (waits haft 14 (by kernel_rfl)); (try dsimp only at t63); exact go_out (wanted_at rfl rfl rfl tg rfl) ⟨rfl, hS.go rfl⟩
          refine LinAll.cons0 (v := fun _ => undef) ?_ ?_
          · intro g5 L5 a5 x hLi haft hS hK; have t8 := (hK.old 8 (by kernel_rfl)).trans o8; have tg := hK.new 14 6 _ 58 _ rfl rfl rfl (by kernel_rfl) (waits haft 14 (by kernel_rfl)); (try dsimp only at t8); exact go_out (wanted_at rfl rfl rfl tg rfl) ⟨rfl, hS.go rfl⟩
          refine LinAll.cons0 (v := fun _ => undef) ?_ ?_
          · intro g5 L5 a5 x hLi haft hS hK; have t65 := hK.new 21 0 _ 65 _ rfl rfl rfl (by kernel_rfl) (waits haft 21 (by kernel_rfl)); have tg := hK.new 14 7 _ 58 _ rfl rfl rfl (by kernel_rfl) (waits haft 14 (by kernel_rfl)); (try dsimp only at t65); exact go_out (wanted_at rfl rfl rfl tg rfl) ⟨rfl, hS.go rfl⟩
          refine LinAll.cons0 (v := fun _ => undef) ?_ ?_
          · intro g5 L5 a5 x hLi haft hS hK; have t66 := hK.new 22 0 _ 66 _ rfl rfl rfl (by kernel_rfl) (waits haft 22 (by kernel_rfl)); have tg := hK.new 14 8 _ 58 _ rfl rfl rfl (by kernel_rfl) (waits haft 14 (by kernel_rfl)); (try dsimp only at t66); exact go_out (wanted_at rfl rfl rfl tg rfl) ⟨rfl, hS.go rfl⟩
          refine LinAll.cons0 (v := fun _ => undef) ?_ ?_
          · intro g5 L5 a5 x hLi haft hS hK; have t67 := hK.new 23 0 _ 67 _ rfl rfl rfl (by kernel_rfl) (waits haft 23 (by kernel_rfl)); have tg := hK.new 14 9 _ 58 _ rfl rfl rfl (by kernel_rfl) (waits haft 14 (by kernel_rfl)); (try dsimp only at t67); exact go_out (wanted_at rfl rfl rfl tg rfl) ⟨rfl, hS.go rfl⟩
          refine LinAll.cons0 (v := fun _ => undef) ?_ ?_
          · intro g5 L5 a5 x hLi haft hS hK; have t64 := hK.new 20 4 _ 64 _ rfl rfl rfl (by kernel_rfl) (waits haft 20 (by kernel_rfl)); have t68 := hK.new 24 0 _ 68 _ rfl rfl rfl (by kernel_rfl) (waits haft 24 (by kernel_rfl)); have tg := hK.new 14 10 _ 58 _ rfl rfl rfl (by kernel_rfl) (waits haft 14 (by kernel_rfl)); (try dsimp only at t64 t68); exact go_out (wanted_at rfl rfl rfl tg rfl) ⟨rfl, hS.go rfl⟩
          apply LinAll.cons0
          · intro g5 L5 a5 x hLi haft hS hK; have t58 := hK.new 14 11 _ 58 _ rfl rfl rfl (by kernel_rfl) (waits haft 14 (by kernel_rfl)); have t69 := hK.new 25 0 _ 69 _ rfl rfl rfl (by kernel_rfl) (waits haft 25 (by kernel_rfl)); (try dsimp only at t58 t69); refine go_in (wanted_all rfl) ?_; intro K hk; clear haft hK hLi; go_simp; exact hk.out g5 x (fun _ _ => rfl) (hS.go rfl)
          apply LinAll.cons0
          · intro g5 L5 a5 x hLi haft hS hK; have t44 := hK.new 0 26 _ 44 _ rfl rfl rfl (by kernel_rfl) (waits haft 0 (by kernel_rfl)); have t46 := hK.new 2 24 _ 46 _ rfl rfl rfl (by kernel_rfl) (waits haft 2 (by kernel_rfl)); (try dsimp only at t44 t46); refine go_in (wanted_all rfl) ?_; intro K hk; clear haft hK hLi; go_simp; exact hk.out g5 x (fun _ _ => rfl) (hS.go rfl)
          refine LinAll.cons0 (v := fun _ => undef) ?_ ?_
          · intro g5 L5 a5 x hLi haft hS hK; have t70 := hK.new 26 1 _ 70 _ rfl rfl rfl (by kernel_rfl) (waits haft 26 (by kernel_rfl)); have t71 := hK.new 27 0 _ 71 _ rfl rfl rfl (by kernel_rfl) (waits haft 27 (by kernel_rfl)); (try dsimp only at t70 t71); refine go_in (wanted_all rfl) ?_; intro K hk; have m1 := hS.row.cell (show k + 1 < I by omega); have m2 := hS.row.frozen (k + 1); have hN := hS.st hLi; clear haft hK hLi hS; go_simp; exact hk.out g5 _ (fun _ _ => rfl) hN
          refine LinAll.nil fun g5 x hS => ?_
          subst ha0
          simp only [Act.put, List.setIfInBounds_toArray, List.set_cons_zero, List.set_cons_succ]
          clear o5 o7 o8
          have HS : Hid _ := hS
          clear hS
          go_wp2_with fail
          refine ⟨⟨k + 1, by omega, by go_num, by rw [HTK.out]; rfl, ?_, by rw [HS.out.sz]; omega, ?_⟩, by simp [intOf]; omega⟩
          · refine HS.out.row.congr fun j _ => ?_
            exact (HNX.out j).symm
          · exact hbU.trans ⟨HS.out.os, HS.out.tape, HS.out.output, Nat.le_of_eq HS.out.sz.symm, fun q hq => HS.out.kp q (by omega)⟩
        --VEND
    · obtain rfl : k = N := by omega
      have hkd : decide ((k : Int) < (k : Int)) = false := decide_eq_false (by omega)
      have HF : Hid (wr.rowIs w.heap.size 4 I (fun j => .bool (vN ((0, 0) :: rs) il j))) := hrow.congr fun j hj => by rw [decide_eq_true (by have := HEI.out; omega), Bool.true_and]
      clear hrow
      go_wp2_with fail
      go_ret
      exact ⟨rfl, HF.out, hbl⟩
end Go.Proofs.Ytdmochghcmeebaa
