import Derived.Test.YtedldoobmmhloaaEA11
namespace Go.Proofs.Ytedldoobmmhloaa
set_option maxHeartbeats 12800000
set_option maxRecDepth 100000
open Go.RowKit
set_option linter.unusedSimpArgs false
set_option linter.unusedVariables false
theorem wp_world {P : Program} {Q : Exit → Act → World → Prop} {c : Code} {a : Act} {w : World} (h : ∀ y, w = y → c.wp P Q a y) : c.wp P Q a w := h w rfl
theorem pv_var {w : World} {B gr mi mv mo wb mg mk i : Nat} {v : Value} {ns : List Nd} {G M : List (Int × Bt)} {n : Nd} {u : Bt} {ok : Bool} (h : Gr w B gr mi mv v mo ns) (hw : Wk w wb gr mg mk G M) (hi : ns[i]? = some n) (hop : n.op = 2)
  (HF : Hid (∀ wx, Below w.heap.size w wx → Calls Try.prog 28 #[.map (some mg), .int .i64 ((i : Int) + 1), .int .i64 n.s] wx fun e w' => e = .returned (.tuple #[.agg #[.int .i64 u.w, .int .u64 u.lo, .int .u64 u.hi], .bool ok]) ∧ Below wx.heap.size wx w')) :
  Calls Try.prog 42 #[.pointer (some ⟨wb, 0, none⟩), .int .i64 ((i : Int) + 1)] w fun e w' => e = .returned (.tuple #[.agg #[.int .i64 (if ok then u else zBt).w, .int .u64 (if ok then u else zBt).lo, .int .u64 (if ok then u else zBt).hi], .int .i64 (if ok then 0 else 41)]) ∧ Below w.heap.size w w' := by
 have c0 : w.cell? ⟨wb, 0, none⟩ = some (.pointer (some ⟨gr, 0, none⟩)) := cell_of hw.hd 0 rfl
 have d1 : w.cell? ⟨wb, 1, none⟩ = some (.map (some mg)) := cell_of hw.hd 1 rfl
 have hwb : wb < w.heap.size := (Array.getElem?_eq_some_iff.1 hw.hd).1
 have HND : Hid (∀ wx, Below w.heap.size w wx → Calls Try.prog 18 #[.pointer (some ⟨gr, 0, none⟩), .int .i64 ((i : Int) + 1)] wx fun e w' => e = .returned (.tuple #[.agg #[.int .i64 n.op, .int .i64 n.s, .int .i64 n.a, .int .i64 n.b, .int .i64 n.c, .int .i64 n.p, .int .i64 n.q, .int .i64 n.w, .int .u64 n.lo, .int .u64 n.hi, .string n.nm], .bool true]) ∧ Below wx.heap.size wx w') := fun wx hb => node_yes (h.below hb) hi
 have z1 : (n.op == 1) = false := by simp [hop]
 have z2 : (n.op == 2) = true := by simp [hop]
 clear h hw hi hop
 go_enter Try.func42, Try.ntmps42
 go_wp2_with fail
 refine Calls.mono (HND.out _ (by go_grown)) ?_
 rintro e w1 ⟨rfl, hb⟩
 have hB : Below w.heap.size w w1 := Below.trans (by go_grown) (hb.mono (by simp))
 have hr : w1.heap[w.heap.size]? = some (.cells #[.int .i64 0, .int .u64 0, .int .u64 0] 25) := (hb.block _ (by simp)).trans (heap_alloc_new w _)
 have HR : Hid _ := hr
 have hs1 : w.heap.size < w1.heap.size := by have := hb.size; simp at this; omega
 clear hb hr
 go_wp2_with fail
 refine wp_world fun wR hwR => ?_
 have hsR : wR.heap.size = w1.heap.size + 1 := by rw [← hwR, size_alloc']
 have hB1 : Below w1.heap.size w1 wR := by rw [← hwR]; exact (Below.refl _ _).alloc (Nat.le_refl _) _
 have hBR : Below w.heap.size w wR := hB.trans (hB1.mono hB.size)
 have hnR : wR.heap[w1.heap.size]? = some (.cells #[.int .i64 n.op, .int .i64 n.s, .int .i64 n.a, .int .i64 n.b, .int .i64 n.c, .int .i64 n.p, .int .i64 n.q, .int .i64 n.w, .int .u64 n.lo, .int .u64 n.hi, .string n.nm] 43) := by rw [← hwR]; exact heap_alloc_new w1 _
 have hrR : wR.heap[w.heap.size]? = some (.cells #[.int .i64 0, .int .u64 0, .int .u64 0] 25) := (hB1.block _ hs1).trans HR.out
 have e1 : wR.cell? ⟨wb, 1, none⟩ = some (.map (some mg)) := bel_cell hBR hwb d1
 have e2 : wR.cell? ⟨w1.heap.size, 1, none⟩ = some (.int .i64 n.s) := cell_of hnR 1 rfl
 have hwbR : wb < wR.heap.size := Nat.lt_of_lt_of_le hwb hBR.size
 have hnlt : w1.heap.size < wR.heap.size := by omega
 have HRR : Hid _ := hrR
 have hle := hBR.size
 have hrlt : w.heap.size < wR.heap.size := by omega
 clear hwR hnR hrR HR hB1 hB hs1
 refine wp_named fun a0 ha0 => ?_
 have o0 := old_at ha0 (t := 0) rfl
 have o1 := old_at ha0 (t := 1) rfl
 have o6 := old_at ha0 (t := 6) rfl
 refine wp_region_lin (S := SS wR wR.heap.size [] [(11, 12, [.int .i64 u.w, .int .u64 u.lo, .int .u64 u.hi])]) [11] (fun _ => 0) (by kernel_rfl) (by kernel_rfl) (by rw [← ha0]; kernel_rfl) (SS.start (Below.refl _ _) (fun p hp => by cases hp)) ?_
 refine' LinAll.cons _ ?_ ?_ ?_
 rotate_left 1
 ·intro g L a x hLi haft hS hK
  have t0 := (hK.old 0 (by kernel_rfl)).trans o0
  try dsimp only at t0
  refine go_in (wanted_all rfl) ?_
  intro K hk
  have hBx := hS.below
  clear haft hK hLi
  go_simp
  exact hS.go hk rfl
 ·intro i hi
  simp only [List.mem_cons, List.not_mem_nil, or_false] at hi
  rcases hi with rfl
  (first | exact Or.inl (fun _ _ _ => rfl) | exact Or.inr (by kernel_rfl))
 refine' LinAll.cons _ ?_ ?_ ?_
 rotate_left 1
 ·intro g L a x hLi haft hS hK
  have t29 := hK.nw haft 0 0 29 rfl (by kernel_rfl)
  try dsimp only at t29
  refine go_in (wanted_all rfl) ?_
  intro K hk
  have hBx := hS.below
  clear haft hK hLi
  go_simp
  exact hS.go hk rfl
 ·intro i hi
  simp only [List.mem_cons, List.not_mem_nil, or_false] at hi
  rcases hi with rfl
  (first | exact Or.inl (fun _ _ _ => rfl) | exact Or.inr (by kernel_rfl))
 refine' LinAll.cons _ ?_ ?_ ?_
 rotate_left 1
 ·intro g L a x hLi haft hS hK
  have t30 := hK.nw haft 1 0 30 rfl (by kernel_rfl)
  try dsimp only at t30
  refine go_in (wanted_all rfl) ?_
  intro K hk
  have hBx := hS.below
  clear haft hK hLi
  go_simp
  exact hS.go hk rfl
 ·intro i hi
  simp only [List.mem_cons, List.not_mem_nil, or_false] at hi
  rcases hi with rfl
  (first | exact Or.inl (fun _ _ _ => rfl) | exact Or.inr (by kernel_rfl))
 refine' LinAll.cons _ ?_ ?_ ?_
 rotate_left 1
 ·intro g L a x hLi haft hS hK
  have t31 := hK.nw haft 2 0 31 rfl (by kernel_rfl)
  try dsimp only at t31
  refine go_in (wanted_all rfl) ?_
  intro K hk
  have hBx := hS.below
  have q1 : x.cell? ⟨wb, 1, none⟩ = some (.map (some mg)) := bel_cell hBx hwbR e1
  clear haft hK hLi
  go_simp
  exact hS.go hk rfl
 ·intro i hi
  simp only [List.mem_cons, List.not_mem_nil, or_false] at hi
  rcases hi with rfl
  (first | exact Or.inl (fun _ _ _ => rfl) | exact Or.inr (by kernel_rfl))
 refine' LinAll.cons _ ?_ ?_ ?_
 rotate_left 1
 ·intro g L a x hLi haft hS hK
  have t1 := (hK.old 1 (by kernel_rfl)).trans o1
  try dsimp only at t1
  refine go_in (wanted_all rfl) ?_
  intro K hk
  have hBx := hS.below
  clear haft hK hLi
  go_simp
  exact hS.go hk rfl
 ·intro i hi
  simp only [List.mem_cons, List.not_mem_nil, or_false] at hi
  rcases hi with rfl
  (first | exact Or.inl (fun _ _ _ => rfl) | exact Or.inr (by kernel_rfl))
 refine' LinAll.cons _ ?_ ?_ ?_
 rotate_left 1
 ·intro g L a x hLi haft hS hK
  have t6 := (hK.old 6 (by kernel_rfl)).trans o6
  try dsimp only at t6
  refine go_in (wanted_all rfl) ?_
  intro K hk
  have hBx := hS.below
  clear haft hK hLi
  go_simp
  exact hS.go hk rfl
 ·intro i hi
  simp only [List.mem_cons, List.not_mem_nil, or_false] at hi
  rcases hi with rfl
  (first | exact Or.inl (fun _ _ _ => rfl) | exact Or.inr (by kernel_rfl))
 refine' LinAll.cons _ ?_ ?_ ?_
 rotate_left 1
 ·intro g L a x hLi haft hS hK
  have t34 := hK.nw haft 5 0 34 rfl (by kernel_rfl)
  try dsimp only at t34
  refine go_in (wanted_all rfl) ?_
  intro K hk
  have hBx := hS.below
  have q2 : x.cell? ⟨w1.heap.size, 1, none⟩ = some (.int .i64 n.s) := bel_cell hBx hnlt e2
  clear haft hK hLi
  go_simp
  exact hS.go hk rfl
 ·intro i hi
  simp only [List.mem_cons, List.not_mem_nil, or_false] at hi
  rcases hi with rfl
  (first | exact Or.inl (fun _ _ _ => rfl) | exact Or.inr (by kernel_rfl))
 refine' LinAll.cons _ ?_ ?_ ?_
 rotate_left 1
 ·intro g L a x hLi haft hS hK
  have t32 := hK.nw haft 3 3 32 rfl (by kernel_rfl)
  have t33 := hK.nw haft 4 2 33 rfl (by kernel_rfl)
  have t35 := hK.nw haft 6 0 35 rfl (by kernel_rfl)
  try dsimp only at t32 t33 t35
  refine go_in (wanted_all rfl) ?_
  intro K hk
  have hBx := hS.below
  clear haft hK hLi
  go_simp
  refine Calls.mono (HF.out _ (hBR.trans (hBx.mono hBR.size))) ?_
  rintro e y ⟨rfl, hb⟩
  exact hS.on hk hb rfl
 ·intro i hi
  simp only [List.mem_cons, List.not_mem_nil, or_false] at hi
  rcases hi with rfl
  (first | exact Or.inl (fun _ _ _ => rfl) | exact Or.inr (by kernel_rfl))
 refine' LinAll.cons _ ?_ ?_ ?_
 rotate_left 1
 ·intro g L a x hLi haft hS hK
  have t36 := hK.nw haft 7 0 36 rfl (by kernel_rfl)
  try dsimp only at t36
  refine go_in (wanted_all rfl) ?_
  intro K hk
  have hBx := hS.below
  clear haft hK hLi
  go_simp
  exact hS.go hk rfl
 ·intro i hi
  simp only [List.mem_cons, List.not_mem_nil, or_false] at hi
  rcases hi with rfl
  (first | exact Or.inl (fun _ _ _ => rfl) | exact Or.inr (by kernel_rfl))
 refine' LinAll.cons _ ?_ ?_ ?_
 rotate_left 1
 ·intro g L a x hLi haft hS hK
  have t28 := hK.nw haft 8 0 28 rfl (by kernel_rfl)
  try dsimp only at t28
  refine go_in (wanted_all rfl) ?_
  intro K hk
  have hBx := hS.below
  clear haft hK hLi
  go_simp
  exact hS.go hk rfl
 ·intro i hi
  simp only [List.mem_cons, List.not_mem_nil, or_false] at hi
  rcases hi with rfl
  (first | exact Or.inl (fun _ _ _ => rfl) | exact Or.inr (by kernel_rfl))
 refine' LinAll.cons _ ?_ ?_ ?_
 rotate_left 1
 ·intro g L a x hLi haft hS hK
  have t28 := hK.nw haft 8 1 28 rfl (by kernel_rfl)
  try dsimp only at t28
  refine go_in (wanted_all rfl) ?_
  intro K hk
  have hBx := hS.below
  clear haft hK hLi
  go_simp
  exact hS.go hk rfl
 ·intro i hi
  simp only [List.mem_cons, List.not_mem_nil, or_false] at hi
  rcases hi with rfl
  (first | exact Or.inl (fun _ _ _ => rfl) | exact Or.inr (by kernel_rfl))
 refine LinAll.cons (fun g => .pointer (some ⟨g 11, 0, none⟩)) ?_ ?_ ?_
 ·intro g L a x hLi haft hS hK
  refine go_in (wanted_all rfl) ?_
  intro K hk
  have hBx := hS.below
  clear haft hK
  go_simp
  have hq := hk.out (updG g 11 x.heap.size) (x.alloc (.cells #[.int .i64 0, .int .u64 0, .int .u64 0] 25)) (updG_al (by rfl)) (hS.alloc hLi (by rfl))
  dsimp only at hq
  rw [updG_eq] at hq
  exact hq
 ·intro i hi
  simp only [List.mem_cons, List.not_mem_nil, or_false] at hi
  rcases hi with rfl
  exact Or.inr (by kernel_rfl)
 refine LinAll.cons (fun _ => undef) ?_ ?_ ?_
 ·intro g L a x hLi haft hS hK
  have t8 := hK.nw haft 11 0 8 rfl (by kernel_rfl)
  have t37 := hK.nw haft 9 2 37 rfl (by kernel_rfl)
  try dsimp only at t8 t37
  refine go_in (wanted_all rfl) ?_
  intro K hk
  have hBx := hS.below
  have hL11 := waits haft 11 (by kernel_rfl)
  obtain ⟨m1, m2, m3, m4⟩ := hS.made _ List.mem_cons_self hL11
  dsimp only [List.length_cons, List.length_nil] at m3 m4
  obtain ⟨u0, c0⟩ := Option.isSome_iff_exists.1 (m4 0 (by decide))
  obtain ⟨u1, c1⟩ := Option.isSome_iff_exists.1 (m4 1 (by decide))
  obtain ⟨u2, c2⟩ := Option.isSome_iff_exists.1 (m4 2 (by decide))
  clear m1 m2 m4
  clear haft hK hLi
  go_simp
  refine hk.out g _ (fun _ _ => rfl) (hS.store hL11 List.mem_cons_self rfl ?_)
  intro q hq e
  simp only [List.mem_cons, List.not_mem_nil, or_false] at hq
  rcases hq with rfl <;> first | rfl | exact absurd e (by simp)
 ·intro i hi
  simp only [List.mem_cons, List.not_mem_nil, or_false] at hi
  rcases hi with rfl
  (first | exact Or.inl (fun _ _ _ => rfl) | exact Or.inr (by kernel_rfl))
 refine' LinAll.cons _ ?_ ?_ ?_
 rotate_left 1
 ·intro g L a x hLi haft hS hK
  have t38 := hK.nw haft 10 2 38 rfl (by kernel_rfl)
  try dsimp only at t38
  refine go_in (wanted_all rfl) ?_
  intro K hk
  have hBx := hS.below
  clear haft hK hLi
  go_simp
  exact hS.go hk rfl
 ·intro i hi
  simp only [List.mem_cons, List.not_mem_nil, or_false] at hi
  rcases hi with rfl
  (first | exact Or.inl (fun _ _ _ => rfl) | exact Or.inr (by kernel_rfl))
 refine LinAll.nil fun g x hS => ?_
 subst ha0
 simp only [Act.put, List.setIfInBounds_toArray, List.set_cons_zero, List.set_cons_succ]
 clear o0 o1 o6
 have hBx := hS.below
 obtain ⟨m1, m2, m3, m4⟩ := hS.made _ List.mem_cons_self rfl
 obtain ⟨q0, q1, q2⟩ := (hS.laid _ List.mem_cons_self rfl).2.get3
 have hr : x.heap[w.heap.size]? = _ := (hBx.block _ hrlt).trans HRR.out
 have r0 : x.cell? ⟨w.heap.size, 0, none⟩ = some (.int .i64 0) := cell_of hr 0 rfl
 have r1 : x.cell? ⟨w.heap.size, 1, none⟩ = some (.int .u64 0) := cell_of hr 1 rfl
 have r2 : x.cell? ⟨w.heap.size, 2, none⟩ = some (.int .u64 0) := cell_of hr 2 rfl
 have rf : ∀ j, x.frozen? ⟨w.heap.size, j, none⟩ = false := fun j => by simp [World.frozen?, hr]
 have hB : Below w.heap.size w x := hBR.trans (hBx.mono hBR.size)
 clear hS hr m1 m2 m3 m4 hBx
 cases ok
 ·go_wp2_with fail
  refine bodyPost_ret (v := .tuple #[.agg #[.int .i64 0, .int .u64 0, .int .u64 0], .int .i64 41]) (by simp [results, Try.results42, go_sem, r0, r1, r2]) rfl ?_
  exact ⟨rfl, by go_grown⟩
 ·go_wp2_with fail
  refine bodyPost_ret (v := .tuple #[.agg #[.int .i64 u.w, .int .u64 u.lo, .int .u64 u.hi], .int .i64 0]) (by simp [results, Try.results42, go_sem, r0, r1, r2]) rfl ?_
  exact ⟨rfl, by go_grown⟩
end Go.Proofs.Ytedldoobmmhloaa
