import Derived.Test.YtedldoobmmhloaaY6
namespace Go.Proofs.Ytedldoobmmhloaa
set_option maxHeartbeats 12800000
set_option maxRecDepth 100000
open Go.RowKit
set_option linter.unusedSimpArgs false
set_option linter.unusedVariables false
def Is' (w : World) (base : Nat) (v : Value) (l : List Int) : Prop := w.ownsRow base 3 1 v l.length (l.map (Value.int .i64))
theorem Is'.li {w : World} {base : Nat} {v : Value} {l : List Int} (h : Is' w base v l) (hl : l ≠ []) : ∃ r cap, v = .slice (some ⟨r, 0, none⟩) l.length cap ∧ base ≤ r ∧ l.length ≤ cap ∧ Li w r 0 l := by
 rcases h.2 with ⟨rfl, hn⟩ | ⟨r, cap, cur, rfl, hb, hg, hc, _, hs, ht⟩
 ·exact absurd (List.eq_nil_of_length_eq_zero hn) hl
 ·refine ⟨r, cap, rfl, hb, hc, fun j hj => ?_⟩
  have e : (l.map (Value.int .i64))[j]? = some (.int .i64 (l.getD j 0)) := by
   rw [List.getElem?_map, List.getElem?_eq_getElem hj, List.getD_eq_getElem?_getD, List.getElem?_eq_getElem hj]; rfl
  rw [← ht, List.getElem?_take_of_lt (by omega)] at e
  rw [Nat.zero_add]
  exact cell_of hg _ (by simpa using e)
theorem ones (l : List Int) : ∀ u ∈ l.map (Value.int .i64), u.oneCell' = true := by
 intro u hu
 obtain ⟨x, _, rfl⟩ := List.mem_map.1 hu
 rfl
theorem row_all {w : World} {B : Nat} {v : Value} {ns : List Nd} (h : w.ownsRow B 43 11 v ns.length (ns.flatMap Nd.cs)) (hne : 0 < ns.length) :
  ∃ r cap, v = .slice (some ⟨r, 0, none⟩) ns.length cap ∧ B ≤ r ∧ r < w.heap.size ∧ ∀ (i : Nat) (n : Nd), ns[i]? = some n → ∀ j u, n.cs[j]? = some u → w.cell? ⟨r, i * 11 + j, none⟩ = some u := by
 rcases h.2 with ⟨hv, hn⟩ | ⟨r, cap, cur, hv, hb, hg, _, _, hs, ht⟩
 ·omega
 ·refine ⟨r, cap, hv, hb, (Array.getElem?_eq_some_iff.1 hg).1, fun i n hi j u hj => ?_⟩
  have hlt : i < ns.length := (List.getElem?_eq_some_iff.1 hi).1
  have hj11 : j < 11 := (List.getElem?_eq_some_iff.1 hj).1
  have e : (ns.flatMap Nd.cs)[i * 11 + j]? = some u := by rw [css_at hi j hj11]; exact hj
  rw [← ht, List.getElem?_take_of_lt (by omega)] at e
  exact cell_of hg _ (by simpa using e)
theorem own_mono {w : World} {b b' : Nat} {e : TypeId} {sz : Nat} {v : Value} {n : Nat} {xs : List Value} (h : w.ownsRow b e sz v n xs) (hb : b' ≤ b) : w.ownsRow b' e sz v n xs := by
 refine ⟨h.1, ?_⟩
 rcases h.2 with hn | ⟨g, cap, cur, rfl, h1, rest⟩
 ·exact .inl hn
 ·exact .inr ⟨g, cap, cur, rfl, Nat.le_trans hb h1, rest⟩
theorem sAt_of {ns : List Nd} {i : Nat} {m : Nd} (h : ns[i]? = some m) : sAt ns ((i : Int) + 1) = m.s := by
 unfold sAt
 rw [show ((i : Int) + 1 - 1).toNat = i by omega, h]; rfl
theorem has_node {ns : List Nd} {x : Int} (h : hasB ns.length x = true) : ∃ (i : Nat) (m : Nd), ns[i]? = some m ∧ x = (i : Int) + 1 := by
 have h' : 1 ≤ x ∧ x ≤ (ns.length : Int) := by simpa [hasB] using h
 have hi : (x - 1).toNat < ns.length := by omega
 exact ⟨(x - 1).toNat, ns[(x - 1).toNat], List.getElem?_eq_getElem hi, by omega⟩
theorem info3 : (Try.prog.info? 3).map (fun i => (i.zero, i.size, i.bytes)) = some (some (.int .i64 0), 1, 8) := by kernel_rfl
theorem under45 : Try.prog.underlying 39 = some (.slice 3) := by kernel_rfl
theorem osr_0 {w : World} {B g mi mv mo : Nat} {v : Value} {ns : List Nd} (h : Gr w B g mi mv v mo ns) {n : Nd} (hk : ari n.op = 0) (hp : prt ns.length n = true) :
  Calls Try.prog 39 #[.pointer (some ⟨g, 0, none⟩), .agg #[.int .i64 n.op, .int .i64 n.s, .int .i64 n.a, .int .i64 n.b, .int .i64 n.c, .int .i64 n.p, .int .i64 n.q, .int .i64 n.w, .int .u64 n.lo, .int .u64 n.hi, .string n.nm]] w fun e w' => ∃ u, e = .returned u ∧ Is' w' w.heap.size u (oss ns n) ∧ Below w.heap.size w w' := by
 have HA : Hid (∀ wx, Calls Try.prog 44 #[.int .i64 n.op] wx fun e w' => e = .returned (.int .i64 0) ∧ w' = wx) := fun wx => by rw [← hk]; exact arity_any _ wx
 clear hp
 go_enter Try.func39, Try.ntmps39
 go_wp2_with fail
 refine (HA.out _).mono ?_
 rintro e wz ⟨rfl, rfl⟩
 go_wp2_with fail
 refine wp_loop_rounds 1 ?_
 rw [rounds_succ]
 go_wp2_with fail
 go_ret
 refine ⟨_, rfl, ?_, by go_grown⟩
 have e : oss ns n = [] := by unfold oss; rw [hk]; rfl
 rw [e]
 exact World.ownsRow_nil _ _ _ _
theorem low_grown {B : Nat} {w wr w1 : World} {o : Obj} {row : Option Nat} (h : Below B w wr) (hB : B ≤ wr.heap.size) (hg : (wr.alloc o).grownBy w1 row) (hr : ∀ q, row = some q → B ≤ q) : Below B w w1 :=
 ⟨hg.os.trans h.os, hg.tape.trans h.tape, hg.output.trans h.output, Nat.le_trans h.size (Nat.le_trans (by simp) hg.size), fun q hq => (hg.block q (by simp; omega) (fun e => by have := hr q e.symm; omega)).trans ((heap_alloc_old wr o (by omega)).trans (h.block q hq))⟩
theorem cell_grown {B : Nat} {wr w1 : World} {o : Obj} {row : Option Nat} {a : Addr} {v : Value} (hg : (wr.alloc o).grownBy w1 row) (hr : ∀ q, row = some q → B ≤ q) (ha : a.block < B) (h : wr.cell? a = some v) : w1.cell? a = some v :=
 hg.cell ((World.cell?_of_block (heap_alloc_old wr o (World.block_lt_of_cell? wr a h))).trans h) (fun e => by have := hr _ e.symm; omega)
def opn (n : Nd) (j : Nat) : Int := [n.a, n.b, n.c].getD j 0
theorem oss_len {ns : List Nd} {n : Nd} {k : Nat} (hk : ari n.op = k) (hk3 : k ≤ 3) : (oss ns n).length = k := by
 unfold oss; rw [hk]; simp; omega
theorem opn_node {ns : List Nd} {n : Nd} {k : Nat} (hk : ari n.op = k) (hk3 : k ≤ 3) (hp : prt ns.length n = true) (j : Nat) (hj : j < k) : ∃ (i : Nat) (m : Nd), ns[i]? = some m ∧ opn n j = (i : Int) + 1 ∧ (oss ns n)[j]? = some m.s := by
 rw [prt_eq hk] at hp
 simp only [Bool.and_eq_true] at hp
 obtain ⟨⟨⟨⟨⟨-, h0⟩, h1⟩, h2⟩, -⟩, -⟩ := hp
 have hx : hasB ns.length (opn n j) = true := by
  have : j = 0 ∨ j = 1 ∨ j = 2 := by omega
  rcases this with rfl | rfl | rfl
  ·rw [opB, if_pos (by omega)] at h0; exact h0
  ·rw [opB, if_pos (by omega)] at h1; exact h1
  ·rw [opB, if_pos (by omega)] at h2; exact h2
 obtain ⟨i, m, hi, e⟩ := has_node hx
 refine ⟨i, m, hi, e, ?_⟩
 unfold oss
 rw [hk, List.getElem?_map, Int.toNat_natCast, List.getElem?_take_of_lt hj]
 have : [n.a, n.b, n.c][j]? = some (opn n j) := by
  have : j = 0 ∨ j = 1 ∨ j = 2 := by omega
  rcases this with rfl | rfl | rfl <;> rfl
 rw [this, e, Option.map_some, sAt_of hi]
theorem wrap_small {i : Nat} (h : i < 5000) : wrap64 (i : Int) = i := by unfold wrap64; omega
theorem osr_1 {w : World} {B g mi mv mo : Nat} {v : Value} {ns : List Nd} (h : Gr w B g mi mv v mo ns) {n : Nd} (hk : ari n.op = 1) (hp : prt ns.length n = true) :
  Calls Try.prog 39 #[.pointer (some ⟨g, 0, none⟩), .agg #[.int .i64 n.op, .int .i64 n.s, .int .i64 n.a, .int .i64 n.b, .int .i64 n.c, .int .i64 n.p, .int .i64 n.q, .int .i64 n.w, .int .u64 n.lo, .int .u64 n.hi, .string n.nm]] w fun e w' => ∃ u, e = .returned u ∧ Is' w' w.heap.size u (oss ns n) ∧ Below w.heap.size w w' := by
 have HA : Hid (∀ wx, Calls Try.prog 44 #[.int .i64 n.op] wx fun e w' => e = .returned (.int .i64 1) ∧ w' = wx) := fun wx => by rw [← hk]; exact arity_any _ wx
 have HP : Hid (∀ j, j < 1 → ∃ (i : Nat) (m : Nd), ns[i]? = some m ∧ opn n j = (i : Int) + 1 ∧ (oss ns n)[j]? = some m.s) := fun j hj => opn_node (k := 1) hk (by omega) hp j hj
 have hol : (oss ns n).length = 1 := oss_len (k := 1) hk (by omega)
 obtain ⟨O, hO⟩ : ∃ O, O = oss ns n := ⟨_, rfl⟩
 rw [← hO] at HP hol ⊢
 have HOL : Hid _ := hol
 have hlen := h.len
 have c1 := h.c1
 have hg := h.lt
 obtain ⟨r, cap, rfl, hBr, hrl, hc⟩ := row_all h.row (by obtain ⟨i, m, hi, -⟩ := HP.out 0 (by omega); have := (List.getElem?_eq_some_iff.1 hi).1; omega)
 have HC : Hid _ := hc
 have HC1 : Hid _ := c1
 obtain ⟨t0, ht0, hz0, hz1, hz2⟩ := info_parts info3
 have HI0 : Hid (Try.prog.info? 3 = some t0 ∧ t0.zero = some (.int .i64 0) ∧ t0.size = 1 ∧ t0.bytes = 8) := ⟨ht0, hz0, hz1, hz2⟩
 have HNS : Hid (∀ (i : Nat) (m : Nd), ns[i]? = some m → i < ns.length) := fun i m hi => (List.getElem?_eq_some_iff.1 hi).1
 obtain ⟨N, hN⟩ : ∃ N, N = ns.length := ⟨_, rfl⟩
 rw [← hN] at HC1 HNS hlen
 clear h hc c1 hk hp hol hO ht0 hz0 hz1 hz2 hBr hN
 go_enter Try.func39, Try.ntmps39
 go_wp2_with fail
 refine (HA.out _).mono ?_
 rintro e wz ⟨rfl, rfl⟩
 go_wp2_with fail
 go_loopw [6, 21] (fun v i wr => ∃ j : Nat, j ≤ 1 ∧ i = .int .i64 (j : Int) ∧ Is' wr (w.heap.size + 2) v (O.take j) ∧ (∀ t, t < 3 → wr.cell? ⟨w.heap.size + 1, t, none⟩ = some (.int .i64 (opn n t))) ∧ w.heap.size + 2 ≤ wr.heap.size ∧ Below w.heap.size w wr) (fun v i wr => 1 - (intOf i).toNat)
 case atStart =>
  refine ⟨0, by omega, rfl, World.ownsRow_nil _ _ _ _, ?_, by simp, by go_grown⟩
  intro t ht
  have : t = 0 ∨ t = 1 ∨ t = 2 := by omega
  rcases this with rfl | rfl | rfl <;> simp [go_sem, opn]
 case round =>
  obtain ⟨j, hj, rfl, hI, ha, hws, hbl⟩ := hrel
  have HI : Hid _ := hI
  have HX : Hid _ := ha
  clear hI ha
  by_cases hlt : j < 1
  ·obtain ⟨i, m, hi, hx, ho⟩ := HP.out j hlt
   have hin := HNS.out i m hi
   have c1 : wr.cell? ⟨g, 1, none⟩ = some (.slice (some ⟨r, 0, none⟩) N cap) := bel_cell hbl hg HC1.out
   have d1 : wr.cell? ⟨r, i * 11 + 1, none⟩ = some (.int .i64 m.s) := bel_cell hbl hrl (HC.out i m hi 1 _ rfl)
   have xj : wr.cell? ⟨w.heap.size + 1, j, none⟩ = some (.int .i64 ((i : Int) + 1)) := by rw [← hx]; exact HX.out j (by omega)
   have e0 := wrap_small (i := i) (by omega)
   have b0 : (i : Int) < (N : Int) := Int.ofNat_lt.2 hin
   have HLN : Hid ((O.take j).length = j) := by unfold Hid; rw [List.length_take, HOL.out]; omega
   have HOJ : Hid (O.take (j + 1) = O.take j ++ [m.s]) := by unfold Hid; rw [List.take_add_one, ho]; rfl
   clear hi hx ho
   go_wp2_with (at_builtin; refine wpList_append_own_at _ rfl _ _ 39 rfl (w.heap.size + 2) 3 t0 (.int .i64 0) 1 8 under45 HI0.out.1 HI0.out.2.1 HI0.out.2.2.1 HI0.out.2.2.2 rfl (by decide) _ _ _ rfl (row_kept HI.out (fun _ hq => heap_alloc_old _ _ hq)) ⟨wr.heap.size, 0, none⟩ 1 1 [.int .i64 m.s] rfl rfl (cell_one_new _ _ _) (ones [m.s]) (by rw [HLN.out]; unfold maxLen; omega) (by rw [HLN.out]; omega) (by simp; omega) ?_; intro v1 w1 hown hgrow hnil hat)
   have hrow : ∀ q, u6.ownBlock = some q → w.heap.size + 2 ≤ q := fun q hq => (HI.out.lt q hq).1
   have HI1 : Hid (Is' w1 (w.heap.size + 2) v1 (O.take (j + 1))) := by
    unfold Hid Is'
    rw [HOJ.out, List.map_append, List.length_append]
    exact hown
   have HX1 : Hid (∀ t, t < 3 → w1.cell? ⟨w.heap.size + 1, t, none⟩ = some (.int .i64 (opn n t))) := fun t ht => cell_grown hgrow hrow (by show w.heap.size + 1 < w.heap.size + 2; omega) (HX.out t ht)
   have hb1 : Below w.heap.size w w1 := low_grown hbl (by omega) hgrow (fun q hq => by have := hrow q hq; omega)
   have hs1 : w.heap.size + 2 ≤ w1.heap.size := by have := hgrow.size; simp at this; omega
   clear hown hgrow hnil hat hrow HX HI
   go_wp2_with fail
   exact ⟨⟨j + 1, by omega, by go_num, HI1.out, HX1.out, hs1, hb1⟩, by simp [intOf]; omega⟩
  ·obtain rfl : j = 1 := by omega
   have HT : Hid (O.take 1 = O) := by unfold Hid; rw [← HOL.out, List.take_length]
   have HF : Hid (Is' wr w.heap.size u6 O) := by have h := HI.out; rw [HT.out] at h; exact own_mono h (by omega)
   clear HI HX HP
   go_wp2_with fail
   go_ret
   exact ⟨_, rfl, HF.out, hbl⟩
theorem osr_2 {w : World} {B g mi mv mo : Nat} {v : Value} {ns : List Nd} (h : Gr w B g mi mv v mo ns) {n : Nd} (hk : ari n.op = 2) (hp : prt ns.length n = true) :
  Calls Try.prog 39 #[.pointer (some ⟨g, 0, none⟩), .agg #[.int .i64 n.op, .int .i64 n.s, .int .i64 n.a, .int .i64 n.b, .int .i64 n.c, .int .i64 n.p, .int .i64 n.q, .int .i64 n.w, .int .u64 n.lo, .int .u64 n.hi, .string n.nm]] w fun e w' => ∃ u, e = .returned u ∧ Is' w' w.heap.size u (oss ns n) ∧ Below w.heap.size w w' := by
 have HA : Hid (∀ wx, Calls Try.prog 44 #[.int .i64 n.op] wx fun e w' => e = .returned (.int .i64 2) ∧ w' = wx) := fun wx => by rw [← hk]; exact arity_any _ wx
 have HP : Hid (∀ j, j < 2 → ∃ (i : Nat) (m : Nd), ns[i]? = some m ∧ opn n j = (i : Int) + 1 ∧ (oss ns n)[j]? = some m.s) := fun j hj => opn_node (k := 2) hk (by omega) hp j hj
 have hol : (oss ns n).length = 2 := oss_len (k := 2) hk (by omega)
 obtain ⟨O, hO⟩ : ∃ O, O = oss ns n := ⟨_, rfl⟩
 rw [← hO] at HP hol ⊢
 have HOL : Hid _ := hol
 have hlen := h.len
 have c1 := h.c1
 have hg := h.lt
 obtain ⟨r, cap, rfl, hBr, hrl, hc⟩ := row_all h.row (by obtain ⟨i, m, hi, -⟩ := HP.out 0 (by omega); have := (List.getElem?_eq_some_iff.1 hi).1; omega)
 have HC : Hid _ := hc
 have HC1 : Hid _ := c1
 obtain ⟨t0, ht0, hz0, hz1, hz2⟩ := info_parts info3
 have HI0 : Hid (Try.prog.info? 3 = some t0 ∧ t0.zero = some (.int .i64 0) ∧ t0.size = 1 ∧ t0.bytes = 8) := ⟨ht0, hz0, hz1, hz2⟩
 have HNS : Hid (∀ (i : Nat) (m : Nd), ns[i]? = some m → i < ns.length) := fun i m hi => (List.getElem?_eq_some_iff.1 hi).1
 obtain ⟨N, hN⟩ : ∃ N, N = ns.length := ⟨_, rfl⟩
 rw [← hN] at HC1 HNS hlen
 clear h hc c1 hk hp hol hO ht0 hz0 hz1 hz2 hBr hN
 go_enter Try.func39, Try.ntmps39
 go_wp2_with fail
 refine (HA.out _).mono ?_
 rintro e wz ⟨rfl, rfl⟩
 go_wp2_with fail
 go_loopw [6, 21] (fun v i wr => ∃ j : Nat, j ≤ 2 ∧ i = .int .i64 (j : Int) ∧ Is' wr (w.heap.size + 2) v (O.take j) ∧ (∀ t, t < 3 → wr.cell? ⟨w.heap.size + 1, t, none⟩ = some (.int .i64 (opn n t))) ∧ w.heap.size + 2 ≤ wr.heap.size ∧ Below w.heap.size w wr) (fun v i wr => 2 - (intOf i).toNat)
 case atStart =>
  refine ⟨0, by omega, rfl, World.ownsRow_nil _ _ _ _, ?_, by simp, by go_grown⟩
  intro t ht
  have : t = 0 ∨ t = 1 ∨ t = 2 := by omega
  rcases this with rfl | rfl | rfl <;> simp [go_sem, opn]
 case round =>
  obtain ⟨j, hj, rfl, hI, ha, hws, hbl⟩ := hrel
  have HI : Hid _ := hI
  have HX : Hid _ := ha
  clear hI ha
  by_cases hlt : j < 2
  ·obtain ⟨i, m, hi, hx, ho⟩ := HP.out j hlt
   have hin := HNS.out i m hi
   have c1 : wr.cell? ⟨g, 1, none⟩ = some (.slice (some ⟨r, 0, none⟩) N cap) := bel_cell hbl hg HC1.out
   have d1 : wr.cell? ⟨r, i * 11 + 1, none⟩ = some (.int .i64 m.s) := bel_cell hbl hrl (HC.out i m hi 1 _ rfl)
   have xj : wr.cell? ⟨w.heap.size + 1, j, none⟩ = some (.int .i64 ((i : Int) + 1)) := by rw [← hx]; exact HX.out j (by omega)
   have e0 := wrap_small (i := i) (by omega)
   have b0 : (i : Int) < (N : Int) := Int.ofNat_lt.2 hin
   have HLN : Hid ((O.take j).length = j) := by unfold Hid; rw [List.length_take, HOL.out]; omega
   have HOJ : Hid (O.take (j + 1) = O.take j ++ [m.s]) := by unfold Hid; rw [List.take_add_one, ho]; rfl
   clear hi hx ho
   go_wp2_with (at_builtin; refine wpList_append_own_at _ rfl _ _ 39 rfl (w.heap.size + 2) 3 t0 (.int .i64 0) 1 8 under45 HI0.out.1 HI0.out.2.1 HI0.out.2.2.1 HI0.out.2.2.2 rfl (by decide) _ _ _ rfl (row_kept HI.out (fun _ hq => heap_alloc_old _ _ hq)) ⟨wr.heap.size, 0, none⟩ 1 1 [.int .i64 m.s] rfl rfl (cell_one_new _ _ _) (ones [m.s]) (by rw [HLN.out]; unfold maxLen; omega) (by rw [HLN.out]; omega) (by simp; omega) ?_; intro v1 w1 hown hgrow hnil hat)
   have hrow : ∀ q, u6.ownBlock = some q → w.heap.size + 2 ≤ q := fun q hq => (HI.out.lt q hq).1
   have HI1 : Hid (Is' w1 (w.heap.size + 2) v1 (O.take (j + 1))) := by
    unfold Hid Is'
    rw [HOJ.out, List.map_append, List.length_append]
    exact hown
   have HX1 : Hid (∀ t, t < 3 → w1.cell? ⟨w.heap.size + 1, t, none⟩ = some (.int .i64 (opn n t))) := fun t ht => cell_grown hgrow hrow (by show w.heap.size + 1 < w.heap.size + 2; omega) (HX.out t ht)
   have hb1 : Below w.heap.size w w1 := low_grown hbl (by omega) hgrow (fun q hq => by have := hrow q hq; omega)
   have hs1 : w.heap.size + 2 ≤ w1.heap.size := by have := hgrow.size; simp at this; omega
   clear hown hgrow hnil hat hrow HX HI
   go_wp2_with fail
   exact ⟨⟨j + 1, by omega, by go_num, HI1.out, HX1.out, hs1, hb1⟩, by simp [intOf]; omega⟩
  ·obtain rfl : j = 2 := by omega
   have HT : Hid (O.take 2 = O) := by unfold Hid; rw [← HOL.out, List.take_length]
   have HF : Hid (Is' wr w.heap.size u6 O) := by have h := HI.out; rw [HT.out] at h; exact own_mono h (by omega)
   clear HI HX HP
   go_wp2_with fail
   go_ret
   exact ⟨_, rfl, HF.out, hbl⟩
theorem osr_3 {w : World} {B g mi mv mo : Nat} {v : Value} {ns : List Nd} (h : Gr w B g mi mv v mo ns) {n : Nd} (hk : ari n.op = 3) (hp : prt ns.length n = true) :
  Calls Try.prog 39 #[.pointer (some ⟨g, 0, none⟩), .agg #[.int .i64 n.op, .int .i64 n.s, .int .i64 n.a, .int .i64 n.b, .int .i64 n.c, .int .i64 n.p, .int .i64 n.q, .int .i64 n.w, .int .u64 n.lo, .int .u64 n.hi, .string n.nm]] w fun e w' => ∃ u, e = .returned u ∧ Is' w' w.heap.size u (oss ns n) ∧ Below w.heap.size w w' := by
 have HA : Hid (∀ wx, Calls Try.prog 44 #[.int .i64 n.op] wx fun e w' => e = .returned (.int .i64 3) ∧ w' = wx) := fun wx => by rw [← hk]; exact arity_any _ wx
 have HP : Hid (∀ j, j < 3 → ∃ (i : Nat) (m : Nd), ns[i]? = some m ∧ opn n j = (i : Int) + 1 ∧ (oss ns n)[j]? = some m.s) := fun j hj => opn_node (k := 3) hk (by omega) hp j hj
 have hol : (oss ns n).length = 3 := oss_len (k := 3) hk (by omega)
 obtain ⟨O, hO⟩ : ∃ O, O = oss ns n := ⟨_, rfl⟩
 rw [← hO] at HP hol ⊢
 have HOL : Hid _ := hol
 have hlen := h.len
 have c1 := h.c1
 have hg := h.lt
 obtain ⟨r, cap, rfl, hBr, hrl, hc⟩ := row_all h.row (by obtain ⟨i, m, hi, -⟩ := HP.out 0 (by omega); have := (List.getElem?_eq_some_iff.1 hi).1; omega)
 have HC : Hid _ := hc
 have HC1 : Hid _ := c1
 obtain ⟨t0, ht0, hz0, hz1, hz2⟩ := info_parts info3
 have HI0 : Hid (Try.prog.info? 3 = some t0 ∧ t0.zero = some (.int .i64 0) ∧ t0.size = 1 ∧ t0.bytes = 8) := ⟨ht0, hz0, hz1, hz2⟩
 have HNS : Hid (∀ (i : Nat) (m : Nd), ns[i]? = some m → i < ns.length) := fun i m hi => (List.getElem?_eq_some_iff.1 hi).1
 obtain ⟨N, hN⟩ : ∃ N, N = ns.length := ⟨_, rfl⟩
 rw [← hN] at HC1 HNS hlen
 clear h hc c1 hk hp hol hO ht0 hz0 hz1 hz2 hBr hN
 go_enter Try.func39, Try.ntmps39
 go_wp2_with fail
 refine (HA.out _).mono ?_
 rintro e wz ⟨rfl, rfl⟩
 go_wp2_with fail
 go_loopw [6, 21] (fun v i wr => ∃ j : Nat, j ≤ 3 ∧ i = .int .i64 (j : Int) ∧ Is' wr (w.heap.size + 2) v (O.take j) ∧ (∀ t, t < 3 → wr.cell? ⟨w.heap.size + 1, t, none⟩ = some (.int .i64 (opn n t))) ∧ w.heap.size + 2 ≤ wr.heap.size ∧ Below w.heap.size w wr) (fun v i wr => 3 - (intOf i).toNat)
 case atStart =>
  refine ⟨0, by omega, rfl, World.ownsRow_nil _ _ _ _, ?_, by simp, by go_grown⟩
  intro t ht
  have : t = 0 ∨ t = 1 ∨ t = 2 := by omega
  rcases this with rfl | rfl | rfl <;> simp [go_sem, opn]
 case round =>
  obtain ⟨j, hj, rfl, hI, ha, hws, hbl⟩ := hrel
  have HI : Hid _ := hI
  have HX : Hid _ := ha
  clear hI ha
  by_cases hlt : j < 3
  ·obtain ⟨i, m, hi, hx, ho⟩ := HP.out j hlt
   have hin := HNS.out i m hi
   have c1 : wr.cell? ⟨g, 1, none⟩ = some (.slice (some ⟨r, 0, none⟩) N cap) := bel_cell hbl hg HC1.out
   have d1 : wr.cell? ⟨r, i * 11 + 1, none⟩ = some (.int .i64 m.s) := bel_cell hbl hrl (HC.out i m hi 1 _ rfl)
   have xj : wr.cell? ⟨w.heap.size + 1, j, none⟩ = some (.int .i64 ((i : Int) + 1)) := by rw [← hx]; exact HX.out j (by omega)
   have e0 := wrap_small (i := i) (by omega)
   have b0 : (i : Int) < (N : Int) := Int.ofNat_lt.2 hin
   have HLN : Hid ((O.take j).length = j) := by unfold Hid; rw [List.length_take, HOL.out]; omega
   have HOJ : Hid (O.take (j + 1) = O.take j ++ [m.s]) := by unfold Hid; rw [List.take_add_one, ho]; rfl
   clear hi hx ho
   go_wp2_with (at_builtin; refine wpList_append_own_at _ rfl _ _ 39 rfl (w.heap.size + 2) 3 t0 (.int .i64 0) 1 8 under45 HI0.out.1 HI0.out.2.1 HI0.out.2.2.1 HI0.out.2.2.2 rfl (by decide) _ _ _ rfl (row_kept HI.out (fun _ hq => heap_alloc_old _ _ hq)) ⟨wr.heap.size, 0, none⟩ 1 1 [.int .i64 m.s] rfl rfl (cell_one_new _ _ _) (ones [m.s]) (by rw [HLN.out]; unfold maxLen; omega) (by rw [HLN.out]; omega) (by simp; omega) ?_; intro v1 w1 hown hgrow hnil hat)
   have hrow : ∀ q, u6.ownBlock = some q → w.heap.size + 2 ≤ q := fun q hq => (HI.out.lt q hq).1
   have HI1 : Hid (Is' w1 (w.heap.size + 2) v1 (O.take (j + 1))) := by
    unfold Hid Is'
    rw [HOJ.out, List.map_append, List.length_append]
    exact hown
   have HX1 : Hid (∀ t, t < 3 → w1.cell? ⟨w.heap.size + 1, t, none⟩ = some (.int .i64 (opn n t))) := fun t ht => cell_grown hgrow hrow (by show w.heap.size + 1 < w.heap.size + 2; omega) (HX.out t ht)
   have hb1 : Below w.heap.size w w1 := low_grown hbl (by omega) hgrow (fun q hq => by have := hrow q hq; omega)
   have hs1 : w.heap.size + 2 ≤ w1.heap.size := by have := hgrow.size; simp at this; omega
   clear hown hgrow hnil hat hrow HX HI
   go_wp2_with fail
   exact ⟨⟨j + 1, by omega, by go_num, HI1.out, HX1.out, hs1, hb1⟩, by simp [intOf]; omega⟩
  ·obtain rfl : j = 3 := by omega
   have HT : Hid (O.take 3 = O) := by unfold Hid; rw [← HOL.out, List.take_length]
   have HF : Hid (Is' wr w.heap.size u6 O) := by have h := HI.out; rw [HT.out] at h; exact own_mono h (by omega)
   clear HI HX HP
   go_wp2_with fail
   go_ret
   exact ⟨_, rfl, HF.out, hbl⟩
theorem osr_any {w : World} {B g mi mv mo : Nat} {v : Value} {ns : List Nd} (h : Gr w B g mi mv v mo ns) {n : Nd} (hp : prt ns.length n = true) :
  Calls Try.prog 39 #[.pointer (some ⟨g, 0, none⟩), .agg #[.int .i64 n.op, .int .i64 n.s, .int .i64 n.a, .int .i64 n.b, .int .i64 n.c, .int .i64 n.p, .int .i64 n.q, .int .i64 n.w, .int .u64 n.lo, .int .u64 n.hi, .string n.nm]] w fun e w' => ∃ u, e = .returned u ∧ Is' w' w.heap.size u (oss ns n) ∧ Below w.heap.size w w' := by
 by_cases h0 : ari n.op < 0
 ·rw [prt_ari h0] at hp
  cases hp
 ·have h3 := ari_le n.op
  have hx : ari n.op = 0 ∨ ari n.op = 1 ∨ ari n.op = 2 ∨ ari n.op = 3 := by omega
  rcases hx with hx | hx | hx | hx
  ·exact osr_0 h hx hp
  ·exact osr_1 h hx hp
  ·exact osr_2 h hx hp
  ·exact osr_3 h hx hp
end Go.Proofs.Ytedldoobmmhloaa
