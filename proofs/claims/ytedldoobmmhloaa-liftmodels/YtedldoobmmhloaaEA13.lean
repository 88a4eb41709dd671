import Derived.Test.YtedldoobmmhloaaEA12
import Derived.Deep.MidRow
namespace Go.Proofs.Ytedldoobmmhloaa
set_option maxHeartbeats 12800000
set_option maxRecDepth 100000
open Go.RowKit
set_option linter.unusedSimpArgs false
set_option linter.unusedVariables false
theorem pv_op1 {w : World} {B gr mi mv mo wb mg mk i : Nat} {v : Value} {ns : List Nd} {G M : List (Int × Bt)} {n : Nd} {va vb vc r : Bt} {er : Int} (h : Gr w B gr mi mv v mo ns) (hw : Wk w wb gr mg mk G M) (hi : ns[i]? = some n) (hop1 : n.op ≠ 1) (hop2 : n.op ≠ 2) (ha : w64 n.a) (hb : w64 n.b) (hc : w64 n.c)
  (hva : va = (getM M n.a).getD zBt) (hvb : vb = (getM M n.b).getD zBt) (hvc : vc = (getM M n.c).getD zBt)
  (HA0 : ∀ wx, Calls Try.prog 44 #[.int .i64 n.op] wx fun e w' => e = .returned (.int .i64 1) ∧ w' = wx)
  (HAP : Hid (∀ wx gb, Below w.heap.size w wx → gb < wx.heap.size → Lb wx gb 0 [va, vb, vc] → Calls Try.prog 51 #[.int .i64 n.op, .int .i64 n.p, .int .i64 n.q, .slice (some ⟨gb, 0, none⟩) 1 3] wx fun e w' => e = .returned (.tuple #[.agg #[.int .i64 r.w, .int .u64 r.lo, .int .u64 r.hi], .int .i64 er]) ∧ Below wx.heap.size wx w')) :
  Calls Try.prog 42 #[.pointer (some ⟨wb, 0, none⟩), .int .i64 ((i : Int) + 1)] w fun e w' => e = .returned (.tuple #[.agg #[.int .i64 r.w, .int .u64 r.lo, .int .u64 r.hi], .int .i64 er]) ∧ Below w.heap.size w w' := by
 have c0 : w.cell? ⟨wb, 0, none⟩ = some (.pointer (some ⟨gr, 0, none⟩)) := cell_of hw.hd 0 rfl
 have d1 : w.cell? ⟨wb, 2, none⟩ = some (.map (some mk)) := cell_of hw.hd 2 rfl
 have hwb : wb < w.heap.size := (Array.getElem?_eq_some_iff.1 hw.hd).1
 have HND : Hid (∀ wx, Below w.heap.size w wx → Calls Try.prog 18 #[.pointer (some ⟨gr, 0, none⟩), .int .i64 ((i : Int) + 1)] wx fun e w' => e = .returned (.tuple #[.agg #[.int .i64 n.op, .int .i64 n.s, .int .i64 n.a, .int .i64 n.b, .int .i64 n.c, .int .i64 n.p, .int .i64 n.q, .int .i64 n.w, .int .u64 n.lo, .int .u64 n.hi, .string n.nm], .bool true]) ∧ Below wx.heap.size wx w') := fun wx hb => node_yes (h.below hb) hi
 have HKN : Hid (∀ wx, Below w.heap.size w wx → Bm wx mk M) := fun wx hb => hw.kn.kept (hb.block _ hw.kn.mp.lt)
 have HA : Hid (∀ wx, Calls Try.prog 44 #[.int .i64 n.op] wx fun e w' => e = .returned (.int .i64 1) ∧ Below wx.heap.size wx w') := fun wx => Calls.mono (HA0 wx) (fun e w' ⟨he, hw⟩ => ⟨he, by rw [hw]; exact Below.refl _ _⟩)
 have z1 : (n.op == 1) = false := by simp [hop1]
 have z2 : (n.op == 2) = false := by simp [hop2]
 clear h hw hi hop1 hop2 HA0
 go_enter Try.func42, Try.ntmps42
 go_wp2_with fail
 refine Calls.mono (HND.out _ (by go_grown)) ?_
 rintro e w1 ⟨rfl, hb1⟩
 have hB : Below w.heap.size w w1 := Below.trans (by go_grown) (hb1.mono (by simp))
 have hr : w1.heap[w.heap.size]? = some (.cells #[.int .i64 0, .int .u64 0, .int .u64 0] 25) := (hb1.block _ (by simp)).trans (heap_alloc_new w _)
 have HR : Hid _ := hr
 have hs1 : w.heap.size < w1.heap.size := by have := hb1.size; simp at this; omega
 clear hb1 hr
 go_wp2_with fail
 refine wp_world fun wR hwR => ?_
 have hsR : wR.heap.size = w1.heap.size + 1 := by rw [← hwR, size_alloc']
 have hB1 : Below w1.heap.size w1 wR := by rw [← hwR]; exact (Below.refl _ _).alloc (Nat.le_refl _) _
 have hBR : Below w.heap.size w wR := hB.trans (hB1.mono hB.size)
 have hnR : wR.heap[w1.heap.size]? = some (.cells #[.int .i64 n.op, .int .i64 n.s, .int .i64 n.a, .int .i64 n.b, .int .i64 n.c, .int .i64 n.p, .int .i64 n.q, .int .i64 n.w, .int .u64 n.lo, .int .u64 n.hi, .string n.nm] 43) := by rw [← hwR]; exact heap_alloc_new w1 _
 have hrR : wR.heap[w.heap.size]? = some (.cells #[.int .i64 0, .int .u64 0, .int .u64 0] 25) := (hB1.block _ hs1).trans HR.out
 have e1 : wR.cell? ⟨wb, 2, none⟩ = some (.map (some mk)) := bel_cell hBR hwb d1
 have n0 : wR.cell? ⟨w1.heap.size, 0, none⟩ = some (.int .i64 n.op) := cell_of hnR 0 rfl
 have n2 : wR.cell? ⟨w1.heap.size, 2, none⟩ = some (.int .i64 n.a) := cell_of hnR 2 rfl
 have n3 : wR.cell? ⟨w1.heap.size, 3, none⟩ = some (.int .i64 n.b) := cell_of hnR 3 rfl
 have n4 : wR.cell? ⟨w1.heap.size, 4, none⟩ = some (.int .i64 n.c) := cell_of hnR 4 rfl
 have n5 : wR.cell? ⟨w1.heap.size, 5, none⟩ = some (.int .i64 n.p) := cell_of hnR 5 rfl
 have n6 : wR.cell? ⟨w1.heap.size, 6, none⟩ = some (.int .i64 n.q) := cell_of hnR 6 rfl
 have hwbR : wb < wR.heap.size := Nat.lt_of_lt_of_le hwb hBR.size
 have hnlt : w1.heap.size < wR.heap.size := by omega
 have HRR : Hid _ := hrR
 have hle := hBR.size
 have hrlt : w.heap.size < wR.heap.size := by omega
 have HLa : Hid (∀ x, Below wR.heap.size wR x → (Instr.lookup 63 (.map (some mk)) (.int .i64 n.a) false).run Try.prog x = .ok (.agg #[.int .i64 va.w, .int .u64 va.lo, .int .u64 va.hi]) x) := fun x hx => by rw [hva]; exact (HKN.out x (hBR.trans (hx.mono hBR.size))).look1 ha
 have HLb : Hid (∀ x, Below wR.heap.size wR x → (Instr.lookup 63 (.map (some mk)) (.int .i64 n.b) false).run Try.prog x = .ok (.agg #[.int .i64 vb.w, .int .u64 vb.lo, .int .u64 vb.hi]) x) := fun x hx => by rw [hvb]; exact (HKN.out x (hBR.trans (hx.mono hBR.size))).look1 hb
 have HLc : Hid (∀ x, Below wR.heap.size wR x → (Instr.lookup 63 (.map (some mk)) (.int .i64 n.c) false).run Try.prog x = .ok (.agg #[.int .i64 vc.w, .int .u64 vc.lo, .int .u64 vc.hi]) x) := fun x hx => by rw [hvc]; exact (HKN.out x (hBR.trans (hx.mono hBR.size))).look1 hc
 clear hwR hnR hrR HR hB1 hB hva hvb hvc
 refine wp_named fun a0 ha0 => ?_
 have o0 := old_at ha0 (t := 0) rfl
 have o6 := old_at ha0 (t := 6) rfl
 refine wp_region_lin (S := SS wR wR.heap.size [] [(22, 23, [.int .i64 va.w, .int .u64 va.lo, .int .u64 va.hi, .int .i64 vb.w, .int .u64 vb.lo, .int .u64 vb.hi, .int .i64 vc.w, .int .u64 vc.lo, .int .u64 vc.hi])]) [22] (fun _ => 0) (by kernel_rfl) (by kernel_rfl) (by rw [← ha0]; kernel_rfl) (SS.start (Below.refl _ _) (fun p hp => by cases hp)) ?_
 refine' LinAll.cons _ ?_ ?_ ?_
 rotate_left 1
 ·intro g L a x hLi haft hS hK
  have t0 := (hK.old 0 (by kernel_rfl)).trans o0
  try dsimp only at t0
  refine go_in (wanted_all rfl) ?_
  intro K hk
  have hBx := hS.below
  clear haft hK hLi
  go_simp
  exact hS.go hk rfl
 ·intro i hi
  simp only [List.mem_cons, List.not_mem_nil, or_false] at hi
  rcases hi with rfl
  (first | exact Or.inl (fun _ _ _ => rfl) | exact Or.inr (by kernel_rfl))
 refine' LinAll.cons _ ?_ ?_ ?_
 rotate_left 1
 ·intro g L a x hLi haft hS hK
  have t43 := hK.nw haft 0 0 43 rfl (by kernel_rfl)
  try dsimp only at t43
  refine go_in (wanted_all rfl) ?_
  intro K hk
  have hBx := hS.below
  clear haft hK hLi
  go_simp
  exact hS.go hk rfl
 ·intro i hi
  simp only [List.mem_cons, List.not_mem_nil, or_false] at hi
  rcases hi with rfl
  (first | exact Or.inl (fun _ _ _ => rfl) | exact Or.inr (by kernel_rfl))
 refine' LinAll.cons _ ?_ ?_ ?_
 rotate_left 1
 ·intro g L a x hLi haft hS hK
  have t44 := hK.nw haft 1 0 44 rfl (by kernel_rfl)
  try dsimp only at t44
  refine go_in (wanted_all rfl) ?_
  intro K hk
  have hBx := hS.below
  clear haft hK hLi
  go_simp
  exact hS.go hk rfl
 ·intro i hi
  simp only [List.mem_cons, List.not_mem_nil, or_false] at hi
  rcases hi with rfl
  (first | exact Or.inl (fun _ _ _ => rfl) | exact Or.inr (by kernel_rfl))
 refine' LinAll.cons _ ?_ ?_ ?_
 rotate_left 1
 ·intro g L a x hLi haft hS hK
  have t45 := hK.nw haft 2 0 45 rfl (by kernel_rfl)
  try dsimp only at t45
  refine go_in (wanted_all rfl) ?_
  intro K hk
  have hBx := hS.below
  have q1 : x.cell? ⟨wb, 2, none⟩ = some (.map (some mk)) := bel_cell hBx hwbR e1
  clear haft hK hLi
  go_simp
  exact hS.go hk rfl
 ·intro i hi
  simp only [List.mem_cons, List.not_mem_nil, or_false] at hi
  rcases hi with rfl
  (first | exact Or.inl (fun _ _ _ => rfl) | exact Or.inr (by kernel_rfl))
 refine' LinAll.cons _ ?_ ?_ ?_
 rotate_left 1
 ·intro g L a x hLi haft hS hK
  have t6 := (hK.old 6 (by kernel_rfl)).trans o6
  try dsimp only at t6
  refine go_in (wanted_all rfl) ?_
  intro K hk
  have hBx := hS.below
  clear haft hK hLi
  go_simp
  exact hS.go hk rfl
 ·intro i hi
  simp only [List.mem_cons, List.not_mem_nil, or_false] at hi
  rcases hi with rfl
  (first | exact Or.inl (fun _ _ _ => rfl) | exact Or.inr (by kernel_rfl))
 refine' LinAll.cons _ ?_ ?_ ?_
 rotate_left 1
 ·intro g L a x hLi haft hS hK
  have t47 := hK.nw haft 4 0 47 rfl (by kernel_rfl)
  try dsimp only at t47
  refine go_in (wanted_all rfl) ?_
  intro K hk
  have hBx := hS.below
  have q2 : x.cell? ⟨w1.heap.size, 2, none⟩ = some (.int .i64 n.a) := bel_cell hBx hnlt n2
  clear haft hK hLi
  go_simp
  exact hS.go hk rfl
 ·intro i hi
  simp only [List.mem_cons, List.not_mem_nil, or_false] at hi
  rcases hi with rfl
  (first | exact Or.inl (fun _ _ _ => rfl) | exact Or.inr (by kernel_rfl))
 refine' LinAll.cons _ ?_ ?_ ?_
 rotate_left 1
 ·intro g L a x hLi haft hS hK
  have t46 := hK.nw haft 3 2 46 rfl (by kernel_rfl)
  have t48 := hK.nw haft 5 0 48 rfl (by kernel_rfl)
  try dsimp only at t46 t48
  refine go_in (wanted_all rfl) ?_
  intro K hk
  have hBx := hS.below
  have hlk := HLa.out x hBx
  clear haft hK hLi
  go_simp
  exact hS.go hk rfl
 ·intro i hi
  simp only [List.mem_cons, List.not_mem_nil, or_false] at hi
  rcases hi with rfl
  (first | exact Or.inl (fun _ _ _ => rfl) | exact Or.inr (by kernel_rfl))
 refine' LinAll.cons _ ?_ ?_ ?_
 rotate_left 1
 ·intro g L a x hLi haft hS hK
  have t0 := (hK.old 0 (by kernel_rfl)).trans o0
  try dsimp only at t0
  refine go_in (wanted_all rfl) ?_
  intro K hk
  have hBx := hS.below
  clear haft hK hLi
  go_simp
  exact hS.go hk rfl
 ·intro i hi
  simp only [List.mem_cons, List.not_mem_nil, or_false] at hi
  rcases hi with rfl
  (first | exact Or.inl (fun _ _ _ => rfl) | exact Or.inr (by kernel_rfl))
 refine' LinAll.cons _ ?_ ?_ ?_
 rotate_left 1
 ·intro g L a x hLi haft hS hK
  have t50 := hK.nw haft 7 0 50 rfl (by kernel_rfl)
  try dsimp only at t50
  refine go_in (wanted_all rfl) ?_
  intro K hk
  have hBx := hS.below
  clear haft hK hLi
  go_simp
  exact hS.go hk rfl
 ·intro i hi
  simp only [List.mem_cons, List.not_mem_nil, or_false] at hi
  rcases hi with rfl
  (first | exact Or.inl (fun _ _ _ => rfl) | exact Or.inr (by kernel_rfl))
 refine' LinAll.cons _ ?_ ?_ ?_
 rotate_left 1
 ·intro g L a x hLi haft hS hK
  have t51 := hK.nw haft 8 0 51 rfl (by kernel_rfl)
  try dsimp only at t51
  refine go_in (wanted_all rfl) ?_
  intro K hk
  have hBx := hS.below
  clear haft hK hLi
  go_simp
  exact hS.go hk rfl
 ·intro i hi
  simp only [List.mem_cons, List.not_mem_nil, or_false] at hi
  rcases hi with rfl
  (first | exact Or.inl (fun _ _ _ => rfl) | exact Or.inr (by kernel_rfl))
 refine' LinAll.cons _ ?_ ?_ ?_
 rotate_left 1
 ·intro g L a x hLi haft hS hK
  have t52 := hK.nw haft 9 0 52 rfl (by kernel_rfl)
  try dsimp only at t52
  refine go_in (wanted_all rfl) ?_
  intro K hk
  have hBx := hS.below
  have q1 : x.cell? ⟨wb, 2, none⟩ = some (.map (some mk)) := bel_cell hBx hwbR e1
  clear haft hK hLi
  go_simp
  exact hS.go hk rfl
 ·intro i hi
  simp only [List.mem_cons, List.not_mem_nil, or_false] at hi
  rcases hi with rfl
  (first | exact Or.inl (fun _ _ _ => rfl) | exact Or.inr (by kernel_rfl))
 refine' LinAll.cons _ ?_ ?_ ?_
 rotate_left 1
 ·intro g L a x hLi haft hS hK
  have t6 := (hK.old 6 (by kernel_rfl)).trans o6
  try dsimp only at t6
  refine go_in (wanted_all rfl) ?_
  intro K hk
  have hBx := hS.below
  clear haft hK hLi
  go_simp
  exact hS.go hk rfl
 ·intro i hi
  simp only [List.mem_cons, List.not_mem_nil, or_false] at hi
  rcases hi with rfl
  (first | exact Or.inl (fun _ _ _ => rfl) | exact Or.inr (by kernel_rfl))
 refine' LinAll.cons _ ?_ ?_ ?_
 rotate_left 1
 ·intro g L a x hLi haft hS hK
  have t54 := hK.nw haft 11 0 54 rfl (by kernel_rfl)
  try dsimp only at t54
  refine go_in (wanted_all rfl) ?_
  intro K hk
  have hBx := hS.below
  have q2 : x.cell? ⟨w1.heap.size, 3, none⟩ = some (.int .i64 n.b) := bel_cell hBx hnlt n3
  clear haft hK hLi
  go_simp
  exact hS.go hk rfl
 ·intro i hi
  simp only [List.mem_cons, List.not_mem_nil, or_false] at hi
  rcases hi with rfl
  (first | exact Or.inl (fun _ _ _ => rfl) | exact Or.inr (by kernel_rfl))
 refine' LinAll.cons _ ?_ ?_ ?_
 rotate_left 1
 ·intro g L a x hLi haft hS hK
  have t53 := hK.nw haft 10 2 53 rfl (by kernel_rfl)
  have t55 := hK.nw haft 12 0 55 rfl (by kernel_rfl)
  try dsimp only at t53 t55
  refine go_in (wanted_all rfl) ?_
  intro K hk
  have hBx := hS.below
  have hlk := HLb.out x hBx
  clear haft hK hLi
  go_simp
  exact hS.go hk rfl
 ·intro i hi
  simp only [List.mem_cons, List.not_mem_nil, or_false] at hi
  rcases hi with rfl
  (first | exact Or.inl (fun _ _ _ => rfl) | exact Or.inr (by kernel_rfl))
 refine' LinAll.cons _ ?_ ?_ ?_
 rotate_left 1
 ·intro g L a x hLi haft hS hK
  have t0 := (hK.old 0 (by kernel_rfl)).trans o0
  try dsimp only at t0
  refine go_in (wanted_all rfl) ?_
  intro K hk
  have hBx := hS.below
  clear haft hK hLi
  go_simp
  exact hS.go hk rfl
 ·intro i hi
  simp only [List.mem_cons, List.not_mem_nil, or_false] at hi
  rcases hi with rfl
  (first | exact Or.inl (fun _ _ _ => rfl) | exact Or.inr (by kernel_rfl))
 refine' LinAll.cons _ ?_ ?_ ?_
 rotate_left 1
 ·intro g L a x hLi haft hS hK
  have t57 := hK.nw haft 14 0 57 rfl (by kernel_rfl)
  try dsimp only at t57
  refine go_in (wanted_all rfl) ?_
  intro K hk
  have hBx := hS.below
  clear haft hK hLi
  go_simp
  exact hS.go hk rfl
 ·intro i hi
  simp only [List.mem_cons, List.not_mem_nil, or_false] at hi
  rcases hi with rfl
  (first | exact Or.inl (fun _ _ _ => rfl) | exact Or.inr (by kernel_rfl))
 refine' LinAll.cons _ ?_ ?_ ?_
 rotate_left 1
 ·intro g L a x hLi haft hS hK
  have t58 := hK.nw haft 15 0 58 rfl (by kernel_rfl)
  try dsimp only at t58
  refine go_in (wanted_all rfl) ?_
  intro K hk
  have hBx := hS.below
  clear haft hK hLi
  go_simp
  exact hS.go hk rfl
 ·intro i hi
  simp only [List.mem_cons, List.not_mem_nil, or_false] at hi
  rcases hi with rfl
  (first | exact Or.inl (fun _ _ _ => rfl) | exact Or.inr (by kernel_rfl))
 refine' LinAll.cons _ ?_ ?_ ?_
 rotate_left 1
 ·intro g L a x hLi haft hS hK
  have t59 := hK.nw haft 16 0 59 rfl (by kernel_rfl)
  try dsimp only at t59
  refine go_in (wanted_all rfl) ?_
  intro K hk
  have hBx := hS.below
  have q1 : x.cell? ⟨wb, 2, none⟩ = some (.map (some mk)) := bel_cell hBx hwbR e1
  clear haft hK hLi
  go_simp
  exact hS.go hk rfl
 ·intro i hi
  simp only [List.mem_cons, List.not_mem_nil, or_false] at hi
  rcases hi with rfl
  (first | exact Or.inl (fun _ _ _ => rfl) | exact Or.inr (by kernel_rfl))
 refine' LinAll.cons _ ?_ ?_ ?_
 rotate_left 1
 ·intro g L a x hLi haft hS hK
  have t6 := (hK.old 6 (by kernel_rfl)).trans o6
  try dsimp only at t6
  refine go_in (wanted_all rfl) ?_
  intro K hk
  have hBx := hS.below
  clear haft hK hLi
  go_simp
  exact hS.go hk rfl
 ·intro i hi
  simp only [List.mem_cons, List.not_mem_nil, or_false] at hi
  rcases hi with rfl
  (first | exact Or.inl (fun _ _ _ => rfl) | exact Or.inr (by kernel_rfl))
 refine' LinAll.cons _ ?_ ?_ ?_
 rotate_left 1
 ·intro g L a x hLi haft hS hK
  have t61 := hK.nw haft 18 0 61 rfl (by kernel_rfl)
  try dsimp only at t61
  refine go_in (wanted_all rfl) ?_
  intro K hk
  have hBx := hS.below
  have q2 : x.cell? ⟨w1.heap.size, 4, none⟩ = some (.int .i64 n.c) := bel_cell hBx hnlt n4
  clear haft hK hLi
  go_simp
  exact hS.go hk rfl
 ·intro i hi
  simp only [List.mem_cons, List.not_mem_nil, or_false] at hi
  rcases hi with rfl
  (first | exact Or.inl (fun _ _ _ => rfl) | exact Or.inr (by kernel_rfl))
 refine' LinAll.cons _ ?_ ?_ ?_
 rotate_left 1
 ·intro g L a x hLi haft hS hK
  have t60 := hK.nw haft 17 2 60 rfl (by kernel_rfl)
  have t62 := hK.nw haft 19 0 62 rfl (by kernel_rfl)
  try dsimp only at t60 t62
  refine go_in (wanted_all rfl) ?_
  intro K hk
  have hBx := hS.below
  have hlk := HLc.out x hBx
  clear haft hK hLi
  go_simp
  exact hS.go hk rfl
 ·intro i hi
  simp only [List.mem_cons, List.not_mem_nil, or_false] at hi
  rcases hi with rfl
  (first | exact Or.inl (fun _ _ _ => rfl) | exact Or.inr (by kernel_rfl))
 refine' LinAll.cons _ ?_ ?_ ?_
 rotate_left 1
 ·intro g L a x hLi haft hS hK
  have t49 := hK.nw haft 6 14 49 rfl (by kernel_rfl)
  have t56 := hK.nw haft 13 7 56 rfl (by kernel_rfl)
  have t63 := hK.nw haft 20 0 63 rfl (by kernel_rfl)
  try dsimp only at t49 t56 t63
  refine go_in (wanted_all rfl) ?_
  intro K hk
  have hBx := hS.below
  clear haft hK hLi
  go_simp
  exact hS.go hk rfl
 ·intro i hi
  simp only [List.mem_cons, List.not_mem_nil, or_false] at hi
  rcases hi with rfl
  (first | exact Or.inl (fun _ _ _ => rfl) | exact Or.inr (by kernel_rfl))
 refine LinAll.cons (fun g => .pointer (some ⟨g 22, 0, none⟩)) ?_ ?_ ?_
 ·intro g L a x hLi haft hS hK
  refine go_in (wanted_all rfl) ?_
  intro K hk
  have hBx := hS.below
  clear haft hK
  go_simp
  have hq := hk.out (updG g 22 x.heap.size) (x.alloc (.cells #[.int .i64 0, .int .u64 0, .int .u64 0, .int .i64 0, .int .u64 0, .int .u64 0, .int .i64 0, .int .u64 0, .int .u64 0] 89)) (updG_al (by rfl)) (hS.alloc hLi (by rfl))
  dsimp only at hq
  rw [updG_eq] at hq
  exact hq
 ·intro i hi
  simp only [List.mem_cons, List.not_mem_nil, or_false] at hi
  rcases hi with rfl
  exact Or.inr (by kernel_rfl)
 refine LinAll.cons (fun _ => undef) ?_ ?_ ?_
 ·intro g L a x hLi haft hS hK
  have t10 := hK.nw haft 22 0 10 rfl (by kernel_rfl)
  have t64 := hK.nw haft 21 1 64 rfl (by kernel_rfl)
  try dsimp only at t10 t64
  refine go_in (wanted_all rfl) ?_
  intro K hk
  have hBx := hS.below
  have hL22 := waits haft 22 (by kernel_rfl)
  obtain ⟨m1, m2, m3, m4⟩ := hS.made _ List.mem_cons_self hL22
  dsimp only [List.length_cons, List.length_nil] at m3 m4
  refine wp_store_mid 89 _ _ rfl (g 22) 0 #[.int .i64 va.w, .int .u64 va.lo, .int .u64 va.hi, .int .i64 vb.w, .int .u64 vb.lo, .int .u64 vb.hi, .int .i64 vc.w, .int .u64 vc.lo, .int .u64 vc.hi] (eval_tmp t10) (eval_tmp t64) (fun j hj => ⟨by simpa using m4 j hj, by simpa using m3 _⟩) (by kernel_rfl) (by first | rfl | (simp [Value.oneCell']; done) | kernel_rfl) ?_
  refine hk.out g _ (fun _ _ => rfl) (hS.store hL22 List.mem_cons_self rfl ?_)
  intro q hq e
  simp only [List.mem_cons, List.not_mem_nil, or_false] at hq
  rcases hq with rfl <;> first | rfl | exact absurd e (by simp)
 ·intro i hi
  simp only [List.mem_cons, List.not_mem_nil, or_false] at hi
  rcases hi with rfl
  (first | exact Or.inl (fun _ _ _ => rfl) | exact Or.inr (by kernel_rfl))
 refine LinAll.nil fun g0 wX hS => ?_
 subst ha0
 simp only [Act.put, List.setIfInBounds_toArray, List.set_cons_zero, List.set_cons_succ]
 clear o0 o6
 have hBx := hS.below
 obtain ⟨m1, m2, m3, m4⟩ := hS.made _ List.mem_cons_self rfl
 have hat := (hS.laid _ List.mem_cons_self rfl).2
 dsimp only at m1 m2 hat
 have HRX : Hid (wX.heap[w.heap.size]? = some (.cells [.int .i64 0, .int .u64 0, .int .u64 0].toArray 25)) := (hBx.block _ hrlt).trans HRR.out
 have hBX : Below w.heap.size w wX := hBR.trans (hBx.mono hBR.size)
 have x0 : wX.cell? ⟨w1.heap.size, 0, none⟩ = some (.int .i64 n.op) := bel_cell hBx hnlt n0
 have x5 : wX.cell? ⟨w1.heap.size, 5, none⟩ = some (.int .i64 n.p) := bel_cell hBx hnlt n5
 have x6 : wX.cell? ⟨w1.heap.size, 6, none⟩ = some (.int .i64 n.q) := bel_cell hBx hnlt n6
 have hnX : w1.heap.size < wX.heap.size := Nat.lt_of_lt_of_le hnlt hBx.size
 have hrX : w.heap.size < wX.heap.size := Nat.lt_of_lt_of_le hrlt hBx.size
 have hnr : w1.heap.size ≠ w.heap.size := by omega
 clear hS m3 m4 hBx
 generalize g0 22 = gb at m1 m2 hat ⊢
 have hgX : gb < wX.heap.size := m2
 have hgr : gb ≠ w.heap.size := by omega
 have HLB : Hid (Lb wX gb 0 [va, vb, vc]) := by
  intro j b hj t u hu
  match j, t, hj, hu with
  | 0, 0, hj, hu => cases hj; cases hu; exact hat 0 _ rfl
  | 0, 1, hj, hu => cases hj; cases hu; exact hat 1 _ rfl
  | 0, 2, hj, hu => cases hj; cases hu; exact hat 2 _ rfl
  | 1, 0, hj, hu => cases hj; cases hu; exact hat 3 _ rfl
  | 1, 1, hj, hu => cases hj; cases hu; exact hat 4 _ rfl
  | 1, 2, hj, hu => cases hj; cases hu; exact hat 5 _ rfl
  | 2, 0, hj, hu => cases hj; cases hu; exact hat 6 _ rfl
  | 2, 1, hj, hu => cases hj; cases hu; exact hat 7 _ rfl
  | 2, 2, hj, hu => cases hj; cases hu; exact hat 8 _ rfl
 clear m1 m2 hat n0 n2 n3 n4 n5 n6 HLa HLb HLc
 go_wp2_with fail
 refine wp_named fun a0 ha0 => ?_
 have o4 := old_at ha0 (t := 4) rfl
 have o6 := old_at ha0 (t := 6) rfl
 have o10 := old_at ha0 (t := 10) rfl
 refine wp_region_lin (S := LS wX w.heap.size 13 [.int .i64 0, .int .u64 0, .int .u64 0] [.int .i64 r.w, .int .u64 r.lo, .int .u64 r.hi] 25) [] (fun _ => 0) (by kernel_rfl) (by kernel_rfl) (by rw [← ha0]; kernel_rfl) (LS.start HRX.out) ?_
 apply LinAll.cons0
 ·intro g L a x hLi haft hS hK; have t6 := (hK.old 6 (by kernel_rfl)).trans o6; (try dsimp only at t6); refine go_in (wanted_all rfl) ?_; intro K hk; clear haft hK hLi; go_simp; exact hk.out g x (fun _ _ => rfl) (hS.go rfl)
 apply LinAll.cons0
 ·intro g L a x hLi haft hS hK; have t65 := hK.nw haft 0 0 65 rfl (by kernel_rfl); (try dsimp only at t65); refine go_in (wanted_all rfl) ?_; intro K hk; have q0 : x.cell? ⟨w1.heap.size, 0, none⟩ = some (.int .i64 n.op) := (World.cell?_of_block (hS.kp _ hnX hnr)).trans x0; clear haft hK hLi; go_simp; exact hk.out g x (fun _ _ => rfl) (hS.go rfl)
 apply LinAll.cons0
 ·intro g L a x hLi haft hS hK; have t6 := (hK.old 6 (by kernel_rfl)).trans o6; (try dsimp only at t6); refine go_in (wanted_all rfl) ?_; intro K hk; clear haft hK hLi; go_simp; exact hk.out g x (fun _ _ => rfl) (hS.go rfl)
 apply LinAll.cons0
 ·intro g L a x hLi haft hS hK; have t67 := hK.nw haft 2 0 67 rfl (by kernel_rfl); (try dsimp only at t67); refine go_in (wanted_all rfl) ?_; intro K hk; have q0 : x.cell? ⟨w1.heap.size, 5, none⟩ = some (.int .i64 n.p) := (World.cell?_of_block (hS.kp _ hnX hnr)).trans x5; clear haft hK hLi; go_simp; exact hk.out g x (fun _ _ => rfl) (hS.go rfl)
 apply LinAll.cons0
 ·intro g L a x hLi haft hS hK; have t6 := (hK.old 6 (by kernel_rfl)).trans o6; (try dsimp only at t6); refine go_in (wanted_all rfl) ?_; intro K hk; clear haft hK hLi; go_simp; exact hk.out g x (fun _ _ => rfl) (hS.go rfl)
 apply LinAll.cons0
 ·intro g L a x hLi haft hS hK; have t69 := hK.nw haft 4 0 69 rfl (by kernel_rfl); (try dsimp only at t69); refine go_in (wanted_all rfl) ?_; intro K hk; have q0 : x.cell? ⟨w1.heap.size, 6, none⟩ = some (.int .i64 n.q) := (World.cell?_of_block (hS.kp _ hnX hnr)).trans x6; clear haft hK hLi; go_simp; exact hk.out g x (fun _ _ => rfl) (hS.go rfl)
 apply LinAll.cons0
 ·intro g L a x hLi haft hS hK; have t6 := (hK.old 6 (by kernel_rfl)).trans o6; (try dsimp only at t6); refine go_in (wanted_all rfl) ?_; intro K hk; clear haft hK hLi; go_simp; exact hk.out g x (fun _ _ => rfl) (hS.go rfl)
 apply LinAll.cons0
 ·intro g L a x hLi haft hS hK; have t71 := hK.nw haft 6 0 71 rfl (by kernel_rfl); (try dsimp only at t71); refine go_in (wanted_all rfl) ?_; intro K hk; have q0 : x.cell? ⟨w1.heap.size, 0, none⟩ = some (.int .i64 n.op) := (World.cell?_of_block (hS.kp _ hnX hnr)).trans x0; clear haft hK hLi; go_simp; exact hk.out g x (fun _ _ => rfl) (hS.go rfl)
 apply LinAll.cons0
 ·intro g L a x hLi haft hS hK; have t72 := hK.nw haft 7 0 72 rfl (by kernel_rfl); (try dsimp only at t72); refine go_in (wanted_all rfl) ?_; intro K hk; clear haft hK hLi; go_simp; refine Calls.mono (HA.out _) ?_; rintro e y ⟨rfl, hb⟩; exact hk.out g y (fun _ _ => rfl) (hS.on hb rfl)
 apply LinAll.cons0
 ·intro g L a x hLi haft hS hK; have t10 := (hK.old 10 (by kernel_rfl)).trans o10; have t73 := hK.nw haft 8 0 73 rfl (by kernel_rfl); (try dsimp only at t10 t73); refine go_in (wanted_all rfl) ?_; intro K hk; clear haft hK hLi; go_simp; exact hk.out g x (fun _ _ => rfl) (hS.go rfl)
 apply LinAll.cons0
 ·intro g L a x hLi haft hS hK; have t66 := hK.nw haft 1 8 66 rfl (by kernel_rfl); have t68 := hK.nw haft 3 6 68 rfl (by kernel_rfl); have t70 := hK.nw haft 5 4 70 rfl (by kernel_rfl); have t74 := hK.nw haft 9 0 74 rfl (by kernel_rfl); (try dsimp only at t66 t68 t70 t74); refine go_in (wanted_all rfl) ?_; intro K hk; have hLx : Lb x gb 0 [va, vb, vc] := fun j b hj t u hu => (World.cell?_of_block (hS.kp _ hgX hgr)).trans (HLB.out j b hj t u hu); have hBy := hBX.trans (hS.below (B := w.heap.size) (Nat.le_refl _) (Nat.le_of_lt hrX)); have hgy := Nat.lt_of_lt_of_le hgX hS.sz; clear haft hK hLi; go_simp; refine Calls.mono (HAP.out _ _ hBy hgy hLx) ?_; rintro e y ⟨rfl, hb⟩; exact hk.out g y (fun _ _ => rfl) (hS.on hb rfl)
 apply LinAll.cons0
 ·intro g L a x hLi haft hS hK; have t75 := hK.nw haft 10 0 75 rfl (by kernel_rfl); (try dsimp only at t75); refine go_in (wanted_all rfl) ?_; intro K hk; clear haft hK hLi; go_simp; exact hk.out g x (fun _ _ => rfl) (hS.go rfl)
 apply LinAll.cons0
 ·intro g L a x hLi haft hS hK; have t75 := hK.nw haft 10 1 75 rfl (by kernel_rfl); (try dsimp only at t75); refine go_in (wanted_all rfl) ?_; intro K hk; clear haft hK hLi; go_simp; exact hk.out g x (fun _ _ => rfl) (hS.go rfl)
 refine LinAll.cons0 (v := fun _ => undef) ?_ ?_
 ·intro g L a x hLi haft hS hK; have t4 := (hK.old 4 (by kernel_rfl)).trans o4; have t76 := hK.nw haft 11 1 76 rfl (by kernel_rfl); (try dsimp only at t4 t76); refine go_in (wanted_all rfl) ?_; intro K hk; have hr0 := hS.rb; rw [hLi] at hr0; have q0 : x.cell? ⟨w.heap.size, 0, none⟩ = some (.int .i64 0) := cell_of hr0 0 rfl; have q1 : x.cell? ⟨w.heap.size, 1, none⟩ = some (.int .u64 0) := cell_of hr0 1 rfl; have q2 : x.cell? ⟨w.heap.size, 2, none⟩ = some (.int .u64 0) := cell_of hr0 2 rfl; have qf : ∀ j, x.frozen? ⟨w.heap.size, j, none⟩ = false := (fun j => by simp [World.frozen?, hr0]); have hst := hS.st3 hLi; clear hr0; clear haft hK; go_simp; exact hk.out g _ (fun _ _ => rfl) hst
 apply LinAll.cons0
 ·intro g L a x hLi haft hS hK; have t77 := hK.nw haft 12 1 77 rfl (by kernel_rfl); (try dsimp only at t77); refine go_in (wanted_all rfl) ?_; intro K hk; clear haft hK hLi; go_simp; exact hk.out g x (fun _ _ => rfl) (hS.go rfl)
 refine LinAll.nil fun g x hS => ?_
 subst ha0
 simp only [Act.put, List.setIfInBounds_toArray, List.set_cons_zero, List.set_cons_succ]
 clear o4 o6 o10
 have r0 : x.cell? ⟨w.heap.size, 0, none⟩ = some (.int .i64 r.w) := cell_of hS.rb 0 rfl
 have r1 : x.cell? ⟨w.heap.size, 1, none⟩ = some (.int .u64 r.lo) := cell_of hS.rb 1 rfl
 have r2 : x.cell? ⟨w.heap.size, 2, none⟩ = some (.int .u64 r.hi) := cell_of hS.rb 2 rfl
 have hB : Below w.heap.size w x := hBX.trans (hS.below (Nat.le_refl _) (Nat.le_of_lt hrX))
 clear hS
 go_wp2_with fail
 refine bodyPost_ret (v := .tuple #[.agg #[.int .i64 r.w, .int .u64 r.lo, .int .u64 r.hi], .int .i64 er]) (by simp [results, Try.results42, go_sem, r0, r1, r2]) rfl ?_
 exact ⟨rfl, hB⟩
theorem pv_op2 {w : World} {B gr mi mv mo wb mg mk i : Nat} {v : Value} {ns : List Nd} {G M : List (Int × Bt)} {n : Nd} {va vb vc r : Bt} {er : Int} (h : Gr w B gr mi mv v mo ns) (hw : Wk w wb gr mg mk G M) (hi : ns[i]? = some n) (hop1 : n.op ≠ 1) (hop2 : n.op ≠ 2) (ha : w64 n.a) (hb : w64 n.b) (hc : w64 n.c)
  (hva : va = (getM M n.a).getD zBt) (hvb : vb = (getM M n.b).getD zBt) (hvc : vc = (getM M n.c).getD zBt)
  (HA0 : ∀ wx, Calls Try.prog 44 #[.int .i64 n.op] wx fun e w' => e = .returned (.int .i64 2) ∧ w' = wx)
  (HAP : Hid (∀ wx gb, Below w.heap.size w wx → gb < wx.heap.size → Lb wx gb 0 [va, vb, vc] → Calls Try.prog 51 #[.int .i64 n.op, .int .i64 n.p, .int .i64 n.q, .slice (some ⟨gb, 0, none⟩) 2 3] wx fun e w' => e = .returned (.tuple #[.agg #[.int .i64 r.w, .int .u64 r.lo, .int .u64 r.hi], .int .i64 er]) ∧ Below wx.heap.size wx w')) :
  Calls Try.prog 42 #[.pointer (some ⟨wb, 0, none⟩), .int .i64 ((i : Int) + 1)] w fun e w' => e = .returned (.tuple #[.agg #[.int .i64 r.w, .int .u64 r.lo, .int .u64 r.hi], .int .i64 er]) ∧ Below w.heap.size w w' := by
 have c0 : w.cell? ⟨wb, 0, none⟩ = some (.pointer (some ⟨gr, 0, none⟩)) := cell_of hw.hd 0 rfl
 have d1 : w.cell? ⟨wb, 2, none⟩ = some (.map (some mk)) := cell_of hw.hd 2 rfl
 have hwb : wb < w.heap.size := (Array.getElem?_eq_some_iff.1 hw.hd).1
 have HND : Hid (∀ wx, Below w.heap.size w wx → Calls Try.prog 18 #[.pointer (some ⟨gr, 0, none⟩), .int .i64 ((i : Int) + 1)] wx fun e w' => e = .returned (.tuple #[.agg #[.int .i64 n.op, .int .i64 n.s, .int .i64 n.a, .int .i64 n.b, .int .i64 n.c, .int .i64 n.p, .int .i64 n.q, .int .i64 n.w, .int .u64 n.lo, .int .u64 n.hi, .string n.nm], .bool true]) ∧ Below wx.heap.size wx w') := fun wx hb => node_yes (h.below hb) hi
 have HKN : Hid (∀ wx, Below w.heap.size w wx → Bm wx mk M) := fun wx hb => hw.kn.kept (hb.block _ hw.kn.mp.lt)
 have HA : Hid (∀ wx, Calls Try.prog 44 #[.int .i64 n.op] wx fun e w' => e = .returned (.int .i64 2) ∧ Below wx.heap.size wx w') := fun wx => Calls.mono (HA0 wx) (fun e w' ⟨he, hw⟩ => ⟨he, by rw [hw]; exact Below.refl _ _⟩)
 have z1 : (n.op == 1) = false := by simp [hop1]
 have z2 : (n.op == 2) = false := by simp [hop2]
 clear h hw hi hop1 hop2 HA0
 go_enter Try.func42, Try.ntmps42
 go_wp2_with fail
 refine Calls.mono (HND.out _ (by go_grown)) ?_
 rintro e w1 ⟨rfl, hb1⟩
 have hB : Below w.heap.size w w1 := Below.trans (by go_grown) (hb1.mono (by simp))
 have hr : w1.heap[w.heap.size]? = some (.cells #[.int .i64 0, .int .u64 0, .int .u64 0] 25) := (hb1.block _ (by simp)).trans (heap_alloc_new w _)
 have HR : Hid _ := hr
 have hs1 : w.heap.size < w1.heap.size := by have := hb1.size; simp at this; omega
 clear hb1 hr
 go_wp2_with fail
 refine wp_world fun wR hwR => ?_
 have hsR : wR.heap.size = w1.heap.size + 1 := by rw [← hwR, size_alloc']
 have hB1 : Below w1.heap.size w1 wR := by rw [← hwR]; exact (Below.refl _ _).alloc (Nat.le_refl _) _
 have hBR : Below w.heap.size w wR := hB.trans (hB1.mono hB.size)
 have hnR : wR.heap[w1.heap.size]? = some (.cells #[.int .i64 n.op, .int .i64 n.s, .int .i64 n.a, .int .i64 n.b, .int .i64 n.c, .int .i64 n.p, .int .i64 n.q, .int .i64 n.w, .int .u64 n.lo, .int .u64 n.hi, .string n.nm] 43) := by rw [← hwR]; exact heap_alloc_new w1 _
 have hrR : wR.heap[w.heap.size]? = some (.cells #[.int .i64 0, .int .u64 0, .int .u64 0] 25) := (hB1.block _ hs1).trans HR.out
 have e1 : wR.cell? ⟨wb, 2, none⟩ = some (.map (some mk)) := bel_cell hBR hwb d1
 have n0 : wR.cell? ⟨w1.heap.size, 0, none⟩ = some (.int .i64 n.op) := cell_of hnR 0 rfl
 have n2 : wR.cell? ⟨w1.heap.size, 2, none⟩ = some (.int .i64 n.a) := cell_of hnR 2 rfl
 have n3 : wR.cell? ⟨w1.heap.size, 3, none⟩ = some (.int .i64 n.b) := cell_of hnR 3 rfl
 have n4 : wR.cell? ⟨w1.heap.size, 4, none⟩ = some (.int .i64 n.c) := cell_of hnR 4 rfl
 have n5 : wR.cell? ⟨w1.heap.size, 5, none⟩ = some (.int .i64 n.p) := cell_of hnR 5 rfl
 have n6 : wR.cell? ⟨w1.heap.size, 6, none⟩ = some (.int .i64 n.q) := cell_of hnR 6 rfl
 have hwbR : wb < wR.heap.size := Nat.lt_of_lt_of_le hwb hBR.size
 have hnlt : w1.heap.size < wR.heap.size := by omega
 have HRR : Hid _ := hrR
 have hle := hBR.size
 have hrlt : w.heap.size < wR.heap.size := by omega
 have HLa : Hid (∀ x, Below wR.heap.size wR x → (Instr.lookup 63 (.map (some mk)) (.int .i64 n.a) false).run Try.prog x = .ok (.agg #[.int .i64 va.w, .int .u64 va.lo, .int .u64 va.hi]) x) := fun x hx => by rw [hva]; exact (HKN.out x (hBR.trans (hx.mono hBR.size))).look1 ha
 have HLb : Hid (∀ x, Below wR.heap.size wR x → (Instr.lookup 63 (.map (some mk)) (.int .i64 n.b) false).run Try.prog x = .ok (.agg #[.int .i64 vb.w, .int .u64 vb.lo, .int .u64 vb.hi]) x) := fun x hx => by rw [hvb]; exact (HKN.out x (hBR.trans (hx.mono hBR.size))).look1 hb
 have HLc : Hid (∀ x, Below wR.heap.size wR x → (Instr.lookup 63 (.map (some mk)) (.int .i64 n.c) false).run Try.prog x = .ok (.agg #[.int .i64 vc.w, .int .u64 vc.lo, .int .u64 vc.hi]) x) := fun x hx => by rw [hvc]; exact (HKN.out x (hBR.trans (hx.mono hBR.size))).look1 hc
 clear hwR hnR hrR HR hB1 hB hva hvb hvc
 refine wp_named fun a0 ha0 => ?_
 have o0 := old_at ha0 (t := 0) rfl
 have o6 := old_at ha0 (t := 6) rfl
 refine wp_region_lin (S := SS wR wR.heap.size [] [(22, 23, [.int .i64 va.w, .int .u64 va.lo, .int .u64 va.hi, .int .i64 vb.w, .int .u64 vb.lo, .int .u64 vb.hi, .int .i64 vc.w, .int .u64 vc.lo, .int .u64 vc.hi])]) [22] (fun _ => 0) (by kernel_rfl) (by kernel_rfl) (by rw [← ha0]; kernel_rfl) (SS.start (Below.refl _ _) (fun p hp => by cases hp)) ?_
 refine' LinAll.cons _ ?_ ?_ ?_
 rotate_left 1
 ·intro g L a x hLi haft hS hK
  have t0 := (hK.old 0 (by kernel_rfl)).trans o0
  try dsimp only at t0
  refine go_in (wanted_all rfl) ?_
  intro K hk
  have hBx := hS.below
  clear haft hK hLi
  go_simp
  exact hS.go hk rfl
 ·intro i hi
  simp only [List.mem_cons, List.not_mem_nil, or_false] at hi
  rcases hi with rfl
  (first | exact Or.inl (fun _ _ _ => rfl) | exact Or.inr (by kernel_rfl))
 refine' LinAll.cons _ ?_ ?_ ?_
 rotate_left 1
 ·intro g L a x hLi haft hS hK
  have t43 := hK.nw haft 0 0 43 rfl (by kernel_rfl)
  try dsimp only at t43
  refine go_in (wanted_all rfl) ?_
  intro K hk
  have hBx := hS.below
  clear haft hK hLi
  go_simp
  exact hS.go hk rfl
 ·intro i hi
  simp only [List.mem_cons, List.not_mem_nil, or_false] at hi
  rcases hi with rfl
  (first | exact Or.inl (fun _ _ _ => rfl) | exact Or.inr (by kernel_rfl))
 refine' LinAll.cons _ ?_ ?_ ?_
 rotate_left 1
 ·intro g L a x hLi haft hS hK
  have t44 := hK.nw haft 1 0 44 rfl (by kernel_rfl)
  try dsimp only at t44
  refine go_in (wanted_all rfl) ?_
  intro K hk
  have hBx := hS.below
  clear haft hK hLi
  go_simp
  exact hS.go hk rfl
 ·intro i hi
  simp only [List.mem_cons, List.not_mem_nil, or_false] at hi
  rcases hi with rfl
  (first | exact Or.inl (fun _ _ _ => rfl) | exact Or.inr (by kernel_rfl))
 refine' LinAll.cons _ ?_ ?_ ?_
 rotate_left 1
 ·intro g L a x hLi haft hS hK
  have t45 := hK.nw haft 2 0 45 rfl (by kernel_rfl)
  try dsimp only at t45
  refine go_in (wanted_all rfl) ?_
  intro K hk
  have hBx := hS.below
  have q1 : x.cell? ⟨wb, 2, none⟩ = some (.map (some mk)) := bel_cell hBx hwbR e1
  clear haft hK hLi
  go_simp
  exact hS.go hk rfl
 ·intro i hi
  simp only [List.mem_cons, List.not_mem_nil, or_false] at hi
  rcases hi with rfl
  (first | exact Or.inl (fun _ _ _ => rfl) | exact Or.inr (by kernel_rfl))
 refine' LinAll.cons _ ?_ ?_ ?_
 rotate_left 1
 ·intro g L a x hLi haft hS hK
  have t6 := (hK.old 6 (by kernel_rfl)).trans o6
  try dsimp only at t6
  refine go_in (wanted_all rfl) ?_
  intro K hk
  have hBx := hS.below
  clear haft hK hLi
  go_simp
  exact hS.go hk rfl
 ·intro i hi
  simp only [List.mem_cons, List.not_mem_nil, or_false] at hi
  rcases hi with rfl
  (first | exact Or.inl (fun _ _ _ => rfl) | exact Or.inr (by kernel_rfl))
 refine' LinAll.cons _ ?_ ?_ ?_
 rotate_left 1
 ·intro g L a x hLi haft hS hK
  have t47 := hK.nw haft 4 0 47 rfl (by kernel_rfl)
  try dsimp only at t47
  refine go_in (wanted_all rfl) ?_
  intro K hk
  have hBx := hS.below
  have q2 : x.cell? ⟨w1.heap.size, 2, none⟩ = some (.int .i64 n.a) := bel_cell hBx hnlt n2
  clear haft hK hLi
  go_simp
  exact hS.go hk rfl
 ·intro i hi
  simp only [List.mem_cons, List.not_mem_nil, or_false] at hi
  rcases hi with rfl
  (first | exact Or.inl (fun _ _ _ => rfl) | exact Or.inr (by kernel_rfl))
 refine' LinAll.cons _ ?_ ?_ ?_
 rotate_left 1
 ·intro g L a x hLi haft hS hK
  have t46 := hK.nw haft 3 2 46 rfl (by kernel_rfl)
  have t48 := hK.nw haft 5 0 48 rfl (by kernel_rfl)
  try dsimp only at t46 t48
  refine go_in (wanted_all rfl) ?_
  intro K hk
  have hBx := hS.below
  have hlk := HLa.out x hBx
  clear haft hK hLi
  go_simp
  exact hS.go hk rfl
 ·intro i hi
  simp only [List.mem_cons, List.not_mem_nil, or_false] at hi
  rcases hi with rfl
  (first | exact Or.inl (fun _ _ _ => rfl) | exact Or.inr (by kernel_rfl))
 refine' LinAll.cons _ ?_ ?_ ?_
 rotate_left 1
 ·intro g L a x hLi haft hS hK
  have t0 := (hK.old 0 (by kernel_rfl)).trans o0
  try dsimp only at t0
  refine go_in (wanted_all rfl) ?_
  intro K hk
  have hBx := hS.below
  clear haft hK hLi
  go_simp
  exact hS.go hk rfl
 ·intro i hi
  simp only [List.mem_cons, List.not_mem_nil, or_false] at hi
  rcases hi with rfl
  (first | exact Or.inl (fun _ _ _ => rfl) | exact Or.inr (by kernel_rfl))
 refine' LinAll.cons _ ?_ ?_ ?_
 rotate_left 1
 ·intro g L a x hLi haft hS hK
  have t50 := hK.nw haft 7 0 50 rfl (by kernel_rfl)
  try dsimp only at t50
  refine go_in (wanted_all rfl) ?_
  intro K hk
  have hBx := hS.below
  clear haft hK hLi
  go_simp
  exact hS.go hk rfl
 ·intro i hi
  simp only [List.mem_cons, List.not_mem_nil, or_false] at hi
  rcases hi with rfl
  (first | exact Or.inl (fun _ _ _ => rfl) | exact Or.inr (by kernel_rfl))
 refine' LinAll.cons _ ?_ ?_ ?_
 rotate_left 1
 ·intro g L a x hLi haft hS hK
  have t51 := hK.nw haft 8 0 51 rfl (by kernel_rfl)
  try dsimp only at t51
  refine go_in (wanted_all rfl) ?_
  intro K hk
  have hBx := hS.below
  clear haft hK hLi
  go_simp
  exact hS.go hk rfl
 ·intro i hi
  simp only [List.mem_cons, List.not_mem_nil, or_false] at hi
  rcases hi with rfl
  (first | exact Or.inl (fun _ _ _ => rfl) | exact Or.inr (by kernel_rfl))
 refine' LinAll.cons _ ?_ ?_ ?_
 rotate_left 1
 ·intro g L a x hLi haft hS hK
  have t52 := hK.nw haft 9 0 52 rfl (by kernel_rfl)
  try dsimp only at t52
  refine go_in (wanted_all rfl) ?_
  intro K hk
  have hBx := hS.below
  have q1 : x.cell? ⟨wb, 2, none⟩ = some (.map (some mk)) := bel_cell hBx hwbR e1
  clear haft hK hLi
  go_simp
  exact hS.go hk rfl
 ·intro i hi
  simp only [List.mem_cons, List.not_mem_nil, or_false] at hi
  rcases hi with rfl
  (first | exact Or.inl (fun _ _ _ => rfl) | exact Or.inr (by kernel_rfl))
 refine' LinAll.cons _ ?_ ?_ ?_
 rotate_left 1
 ·intro g L a x hLi haft hS hK
  have t6 := (hK.old 6 (by kernel_rfl)).trans o6
  try dsimp only at t6
  refine go_in (wanted_all rfl) ?_
  intro K hk
  have hBx := hS.below
  clear haft hK hLi
  go_simp
  exact hS.go hk rfl
 ·intro i hi
  simp only [List.mem_cons, List.not_mem_nil, or_false] at hi
  rcases hi with rfl
  (first | exact Or.inl (fun _ _ _ => rfl) | exact Or.inr (by kernel_rfl))
 refine' LinAll.cons _ ?_ ?_ ?_
 rotate_left 1
 ·intro g L a x hLi haft hS hK
  have t54 := hK.nw haft 11 0 54 rfl (by kernel_rfl)
  try dsimp only at t54
  refine go_in (wanted_all rfl) ?_
  intro K hk
  have hBx := hS.below
  have q2 : x.cell? ⟨w1.heap.size, 3, none⟩ = some (.int .i64 n.b) := bel_cell hBx hnlt n3
  clear haft hK hLi
  go_simp
  exact hS.go hk rfl
 ·intro i hi
  simp only [List.mem_cons, List.not_mem_nil, or_false] at hi
  rcases hi with rfl
  (first | exact Or.inl (fun _ _ _ => rfl) | exact Or.inr (by kernel_rfl))
 refine' LinAll.cons _ ?_ ?_ ?_
 rotate_left 1
 ·intro g L a x hLi haft hS hK
  have t53 := hK.nw haft 10 2 53 rfl (by kernel_rfl)
  have t55 := hK.nw haft 12 0 55 rfl (by kernel_rfl)
  try dsimp only at t53 t55
  refine go_in (wanted_all rfl) ?_
  intro K hk
  have hBx := hS.below
  have hlk := HLb.out x hBx
  clear haft hK hLi
  go_simp
  exact hS.go hk rfl
 ·intro i hi
  simp only [List.mem_cons, List.not_mem_nil, or_false] at hi
  rcases hi with rfl
  (first | exact Or.inl (fun _ _ _ => rfl) | exact Or.inr (by kernel_rfl))
 refine' LinAll.cons _ ?_ ?_ ?_
 rotate_left 1
 ·intro g L a x hLi haft hS hK
  have t0 := (hK.old 0 (by kernel_rfl)).trans o0
  try dsimp only at t0
  refine go_in (wanted_all rfl) ?_
  intro K hk
  have hBx := hS.below
  clear haft hK hLi
  go_simp
  exact hS.go hk rfl
 ·intro i hi
  simp only [List.mem_cons, List.not_mem_nil, or_false] at hi
  rcases hi with rfl
  (first | exact Or.inl (fun _ _ _ => rfl) | exact Or.inr (by kernel_rfl))
 refine' LinAll.cons _ ?_ ?_ ?_
 rotate_left 1
 ·intro g L a x hLi haft hS hK
  have t57 := hK.nw haft 14 0 57 rfl (by kernel_rfl)
  try dsimp only at t57
  refine go_in (wanted_all rfl) ?_
  intro K hk
  have hBx := hS.below
  clear haft hK hLi
  go_simp
  exact hS.go hk rfl
 ·intro i hi
  simp only [List.mem_cons, List.not_mem_nil, or_false] at hi
  rcases hi with rfl
  (first | exact Or.inl (fun _ _ _ => rfl) | exact Or.inr (by kernel_rfl))
 refine' LinAll.cons _ ?_ ?_ ?_
 rotate_left 1
 ·intro g L a x hLi haft hS hK
  have t58 := hK.nw haft 15 0 58 rfl (by kernel_rfl)
  try dsimp only at t58
  refine go_in (wanted_all rfl) ?_
  intro K hk
  have hBx := hS.below
  clear haft hK hLi
  go_simp
  exact hS.go hk rfl
 ·intro i hi
  simp only [List.mem_cons, List.not_mem_nil, or_false] at hi
  rcases hi with rfl
  (first | exact Or.inl (fun _ _ _ => rfl) | exact Or.inr (by kernel_rfl))
 refine' LinAll.cons _ ?_ ?_ ?_
 rotate_left 1
 ·intro g L a x hLi haft hS hK
  have t59 := hK.nw haft 16 0 59 rfl (by kernel_rfl)
  try dsimp only at t59
  refine go_in (wanted_all rfl) ?_
  intro K hk
  have hBx := hS.below
  have q1 : x.cell? ⟨wb, 2, none⟩ = some (.map (some mk)) := bel_cell hBx hwbR e1
  clear haft hK hLi
  go_simp
  exact hS.go hk rfl
 ·intro i hi
  simp only [List.mem_cons, List.not_mem_nil, or_false] at hi
  rcases hi with rfl
  (first | exact Or.inl (fun _ _ _ => rfl) | exact Or.inr (by kernel_rfl))
 refine' LinAll.cons _ ?_ ?_ ?_
 rotate_left 1
 ·intro g L a x hLi haft hS hK
  have t6 := (hK.old 6 (by kernel_rfl)).trans o6
  try dsimp only at t6
  refine go_in (wanted_all rfl) ?_
  intro K hk
  have hBx := hS.below
  clear haft hK hLi
  go_simp
  exact hS.go hk rfl
 ·intro i hi
  simp only [List.mem_cons, List.not_mem_nil, or_false] at hi
  rcases hi with rfl
  (first | exact Or.inl (fun _ _ _ => rfl) | exact Or.inr (by kernel_rfl))
 refine' LinAll.cons _ ?_ ?_ ?_
 rotate_left 1
 ·intro g L a x hLi haft hS hK
  have t61 := hK.nw haft 18 0 61 rfl (by kernel_rfl)
  try dsimp only at t61
  refine go_in (wanted_all rfl) ?_
  intro K hk
  have hBx := hS.below
  have q2 : x.cell? ⟨w1.heap.size, 4, none⟩ = some (.int .i64 n.c) := bel_cell hBx hnlt n4
  clear haft hK hLi
  go_simp
  exact hS.go hk rfl
 ·intro i hi
  simp only [List.mem_cons, List.not_mem_nil, or_false] at hi
  rcases hi with rfl
  (first | exact Or.inl (fun _ _ _ => rfl) | exact Or.inr (by kernel_rfl))
 refine' LinAll.cons _ ?_ ?_ ?_
 rotate_left 1
 ·intro g L a x hLi haft hS hK
  have t60 := hK.nw haft 17 2 60 rfl (by kernel_rfl)
  have t62 := hK.nw haft 19 0 62 rfl (by kernel_rfl)
  try dsimp only at t60 t62
  refine go_in (wanted_all rfl) ?_
  intro K hk
  have hBx := hS.below
  have hlk := HLc.out x hBx
  clear haft hK hLi
  go_simp
  exact hS.go hk rfl
 ·intro i hi
  simp only [List.mem_cons, List.not_mem_nil, or_false] at hi
  rcases hi with rfl
  (first | exact Or.inl (fun _ _ _ => rfl) | exact Or.inr (by kernel_rfl))
 refine' LinAll.cons _ ?_ ?_ ?_
 rotate_left 1
 ·intro g L a x hLi haft hS hK
  have t49 := hK.nw haft 6 14 49 rfl (by kernel_rfl)
  have t56 := hK.nw haft 13 7 56 rfl (by kernel_rfl)
  have t63 := hK.nw haft 20 0 63 rfl (by kernel_rfl)
  try dsimp only at t49 t56 t63
  refine go_in (wanted_all rfl) ?_
  intro K hk
  have hBx := hS.below
  clear haft hK hLi
  go_simp
  exact hS.go hk rfl
 ·intro i hi
  simp only [List.mem_cons, List.not_mem_nil, or_false] at hi
  rcases hi with rfl
  (first | exact Or.inl (fun _ _ _ => rfl) | exact Or.inr (by kernel_rfl))
 refine LinAll.cons (fun g => .pointer (some ⟨g 22, 0, none⟩)) ?_ ?_ ?_
 ·intro g L a x hLi haft hS hK
  refine go_in (wanted_all rfl) ?_
  intro K hk
  have hBx := hS.below
  clear haft hK
  go_simp
  have hq := hk.out (updG g 22 x.heap.size) (x.alloc (.cells #[.int .i64 0, .int .u64 0, .int .u64 0, .int .i64 0, .int .u64 0, .int .u64 0, .int .i64 0, .int .u64 0, .int .u64 0] 89)) (updG_al (by rfl)) (hS.alloc hLi (by rfl))
  dsimp only at hq
  rw [updG_eq] at hq
  exact hq
 ·intro i hi
  simp only [List.mem_cons, List.not_mem_nil, or_false] at hi
  rcases hi with rfl
  exact Or.inr (by kernel_rfl)
 refine LinAll.cons (fun _ => undef) ?_ ?_ ?_
 ·intro g L a x hLi haft hS hK
  have t10 := hK.nw haft 22 0 10 rfl (by kernel_rfl)
  have t64 := hK.nw haft 21 1 64 rfl (by kernel_rfl)
  try dsimp only at t10 t64
  refine go_in (wanted_all rfl) ?_
  intro K hk
  have hBx := hS.below
  have hL22 := waits haft 22 (by kernel_rfl)
  obtain ⟨m1, m2, m3, m4⟩ := hS.made _ List.mem_cons_self hL22
  dsimp only [List.length_cons, List.length_nil] at m3 m4
  refine wp_store_mid 89 _ _ rfl (g 22) 0 #[.int .i64 va.w, .int .u64 va.lo, .int .u64 va.hi, .int .i64 vb.w, .int .u64 vb.lo, .int .u64 vb.hi, .int .i64 vc.w, .int .u64 vc.lo, .int .u64 vc.hi] (eval_tmp t10) (eval_tmp t64) (fun j hj => ⟨by simpa using m4 j hj, by simpa using m3 _⟩) (by kernel_rfl) (by first | rfl | (simp [Value.oneCell']; done) | kernel_rfl) ?_
  refine hk.out g _ (fun _ _ => rfl) (hS.store hL22 List.mem_cons_self rfl ?_)
  intro q hq e
  simp only [List.mem_cons, List.not_mem_nil, or_false] at hq
  rcases hq with rfl <;> first | rfl | exact absurd e (by simp)
 ·intro i hi
  simp only [List.mem_cons, List.not_mem_nil, or_false] at hi
  rcases hi with rfl
  (first | exact Or.inl (fun _ _ _ => rfl) | exact Or.inr (by kernel_rfl))
 refine LinAll.nil fun g0 wX hS => ?_
 subst ha0
 simp only [Act.put, List.setIfInBounds_toArray, List.set_cons_zero, List.set_cons_succ]
 clear o0 o6
 have hBx := hS.below
 obtain ⟨m1, m2, m3, m4⟩ := hS.made _ List.mem_cons_self rfl
 have hat := (hS.laid _ List.mem_cons_self rfl).2
 dsimp only at m1 m2 hat
 have HRX : Hid (wX.heap[w.heap.size]? = some (.cells [.int .i64 0, .int .u64 0, .int .u64 0].toArray 25)) := (hBx.block _ hrlt).trans HRR.out
 have hBX : Below w.heap.size w wX := hBR.trans (hBx.mono hBR.size)
 have x0 : wX.cell? ⟨w1.heap.size, 0, none⟩ = some (.int .i64 n.op) := bel_cell hBx hnlt n0
 have x5 : wX.cell? ⟨w1.heap.size, 5, none⟩ = some (.int .i64 n.p) := bel_cell hBx hnlt n5
 have x6 : wX.cell? ⟨w1.heap.size, 6, none⟩ = some (.int .i64 n.q) := bel_cell hBx hnlt n6
 have hnX : w1.heap.size < wX.heap.size := Nat.lt_of_lt_of_le hnlt hBx.size
 have hrX : w.heap.size < wX.heap.size := Nat.lt_of_lt_of_le hrlt hBx.size
 have hnr : w1.heap.size ≠ w.heap.size := by omega
 clear hS m3 m4 hBx
 generalize g0 22 = gb at m1 m2 hat ⊢
 have hgX : gb < wX.heap.size := m2
 have hgr : gb ≠ w.heap.size := by omega
 have HLB : Hid (Lb wX gb 0 [va, vb, vc]) := by
  intro j b hj t u hu
  match j, t, hj, hu with
  | 0, 0, hj, hu => cases hj; cases hu; exact hat 0 _ rfl
  | 0, 1, hj, hu => cases hj; cases hu; exact hat 1 _ rfl
  | 0, 2, hj, hu => cases hj; cases hu; exact hat 2 _ rfl
  | 1, 0, hj, hu => cases hj; cases hu; exact hat 3 _ rfl
  | 1, 1, hj, hu => cases hj; cases hu; exact hat 4 _ rfl
  | 1, 2, hj, hu => cases hj; cases hu; exact hat 5 _ rfl
  | 2, 0, hj, hu => cases hj; cases hu; exact hat 6 _ rfl
  | 2, 1, hj, hu => cases hj; cases hu; exact hat 7 _ rfl
  | 2, 2, hj, hu => cases hj; cases hu; exact hat 8 _ rfl
 clear m1 m2 hat n0 n2 n3 n4 n5 n6 HLa HLb HLc
 go_wp2_with fail
 refine wp_named fun a0 ha0 => ?_
 have o4 := old_at ha0 (t := 4) rfl
 have o6 := old_at ha0 (t := 6) rfl
 have o10 := old_at ha0 (t := 10) rfl
 refine wp_region_lin (S := LS wX w.heap.size 13 [.int .i64 0, .int .u64 0, .int .u64 0] [.int .i64 r.w, .int .u64 r.lo, .int .u64 r.hi] 25) [] (fun _ => 0) (by kernel_rfl) (by kernel_rfl) (by rw [← ha0]; kernel_rfl) (LS.start HRX.out) ?_
 apply LinAll.cons0
 ·intro g L a x hLi haft hS hK; have t6 := (hK.old 6 (by kernel_rfl)).trans o6; (try dsimp only at t6); refine go_in (wanted_all rfl) ?_; intro K hk; clear haft hK hLi; go_simp; exact hk.out g x (fun _ _ => rfl) (hS.go rfl)
 apply LinAll.cons0
 ·intro g L a x hLi haft hS hK; have t65 := hK.nw haft 0 0 65 rfl (by kernel_rfl); (try dsimp only at t65); refine go_in (wanted_all rfl) ?_; intro K hk; have q0 : x.cell? ⟨w1.heap.size, 0, none⟩ = some (.int .i64 n.op) := (World.cell?_of_block (hS.kp _ hnX hnr)).trans x0; clear haft hK hLi; go_simp; exact hk.out g x (fun _ _ => rfl) (hS.go rfl)
 apply LinAll.cons0
 ·intro g L a x hLi haft hS hK; have t6 := (hK.old 6 (by kernel_rfl)).trans o6; (try dsimp only at t6); refine go_in (wanted_all rfl) ?_; intro K hk; clear haft hK hLi; go_simp; exact hk.out g x (fun _ _ => rfl) (hS.go rfl)
 apply LinAll.cons0
 ·intro g L a x hLi haft hS hK; have t67 := hK.nw haft 2 0 67 rfl (by kernel_rfl); (try dsimp only at t67); refine go_in (wanted_all rfl) ?_; intro K hk; have q0 : x.cell? ⟨w1.heap.size, 5, none⟩ = some (.int .i64 n.p) := (World.cell?_of_block (hS.kp _ hnX hnr)).trans x5; clear haft hK hLi; go_simp; exact hk.out g x (fun _ _ => rfl) (hS.go rfl)
 apply LinAll.cons0
 ·intro g L a x hLi haft hS hK; have t6 := (hK.old 6 (by kernel_rfl)).trans o6; (try dsimp only at t6); refine go_in (wanted_all rfl) ?_; intro K hk; clear haft hK hLi; go_simp; exact hk.out g x (fun _ _ => rfl) (hS.go rfl)
 apply LinAll.cons0
 ·intro g L a x hLi haft hS hK; have t69 := hK.nw haft 4 0 69 rfl (by kernel_rfl); (try dsimp only at t69); refine go_in (wanted_all rfl) ?_; intro K hk; have q0 : x.cell? ⟨w1.heap.size, 6, none⟩ = some (.int .i64 n.q) := (World.cell?_of_block (hS.kp _ hnX hnr)).trans x6; clear haft hK hLi; go_simp; exact hk.out g x (fun _ _ => rfl) (hS.go rfl)
 apply LinAll.cons0
 ·intro g L a x hLi haft hS hK; have t6 := (hK.old 6 (by kernel_rfl)).trans o6; (try dsimp only at t6); refine go_in (wanted_all rfl) ?_; intro K hk; clear haft hK hLi; go_simp; exact hk.out g x (fun _ _ => rfl) (hS.go rfl)
 apply LinAll.cons0
 ·intro g L a x hLi haft hS hK; have t71 := hK.nw haft 6 0 71 rfl (by kernel_rfl); (try dsimp only at t71); refine go_in (wanted_all rfl) ?_; intro K hk; have q0 : x.cell? ⟨w1.heap.size, 0, none⟩ = some (.int .i64 n.op) := (World.cell?_of_block (hS.kp _ hnX hnr)).trans x0; clear haft hK hLi; go_simp; exact hk.out g x (fun _ _ => rfl) (hS.go rfl)
 apply LinAll.cons0
 ·intro g L a x hLi haft hS hK; have t72 := hK.nw haft 7 0 72 rfl (by kernel_rfl); (try dsimp only at t72); refine go_in (wanted_all rfl) ?_; intro K hk; clear haft hK hLi; go_simp; refine Calls.mono (HA.out _) ?_; rintro e y ⟨rfl, hb⟩; exact hk.out g y (fun _ _ => rfl) (hS.on hb rfl)
 apply LinAll.cons0
 ·intro g L a x hLi haft hS hK; have t10 := (hK.old 10 (by kernel_rfl)).trans o10; have t73 := hK.nw haft 8 0 73 rfl (by kernel_rfl); (try dsimp only at t10 t73); refine go_in (wanted_all rfl) ?_; intro K hk; clear haft hK hLi; go_simp; exact hk.out g x (fun _ _ => rfl) (hS.go rfl)
 apply LinAll.cons0
 ·intro g L a x hLi haft hS hK; have t66 := hK.nw haft 1 8 66 rfl (by kernel_rfl); have t68 := hK.nw haft 3 6 68 rfl (by kernel_rfl); have t70 := hK.nw haft 5 4 70 rfl (by kernel_rfl); have t74 := hK.nw haft 9 0 74 rfl (by kernel_rfl); (try dsimp only at t66 t68 t70 t74); refine go_in (wanted_all rfl) ?_; intro K hk; have hLx : Lb x gb 0 [va, vb, vc] := fun j b hj t u hu => (World.cell?_of_block (hS.kp _ hgX hgr)).trans (HLB.out j b hj t u hu); have hBy := hBX.trans (hS.below (B := w.heap.size) (Nat.le_refl _) (Nat.le_of_lt hrX)); have hgy := Nat.lt_of_lt_of_le hgX hS.sz; clear haft hK hLi; go_simp; refine Calls.mono (HAP.out _ _ hBy hgy hLx) ?_; rintro e y ⟨rfl, hb⟩; exact hk.out g y (fun _ _ => rfl) (hS.on hb rfl)
 apply LinAll.cons0
 ·intro g L a x hLi haft hS hK; have t75 := hK.nw haft 10 0 75 rfl (by kernel_rfl); (try dsimp only at t75); refine go_in (wanted_all rfl) ?_; intro K hk; clear haft hK hLi; go_simp; exact hk.out g x (fun _ _ => rfl) (hS.go rfl)
 apply LinAll.cons0
 ·intro g L a x hLi haft hS hK; have t75 := hK.nw haft 10 1 75 rfl (by kernel_rfl); (try dsimp only at t75); refine go_in (wanted_all rfl) ?_; intro K hk; clear haft hK hLi; go_simp; exact hk.out g x (fun _ _ => rfl) (hS.go rfl)
 refine LinAll.cons0 (v := fun _ => undef) ?_ ?_
 ·intro g L a x hLi haft hS hK; have t4 := (hK.old 4 (by kernel_rfl)).trans o4; have t76 := hK.nw haft 11 1 76 rfl (by kernel_rfl); (try dsimp only at t4 t76); refine go_in (wanted_all rfl) ?_; intro K hk; have hr0 := hS.rb; rw [hLi] at hr0; have q0 : x.cell? ⟨w.heap.size, 0, none⟩ = some (.int .i64 0) := cell_of hr0 0 rfl; have q1 : x.cell? ⟨w.heap.size, 1, none⟩ = some (.int .u64 0) := cell_of hr0 1 rfl; have q2 : x.cell? ⟨w.heap.size, 2, none⟩ = some (.int .u64 0) := cell_of hr0 2 rfl; have qf : ∀ j, x.frozen? ⟨w.heap.size, j, none⟩ = false := (fun j => by simp [World.frozen?, hr0]); have hst := hS.st3 hLi; clear hr0; clear haft hK; go_simp; exact hk.out g _ (fun _ _ => rfl) hst
 apply LinAll.cons0
 ·intro g L a x hLi haft hS hK; have t77 := hK.nw haft 12 1 77 rfl (by kernel_rfl); (try dsimp only at t77); refine go_in (wanted_all rfl) ?_; intro K hk; clear haft hK hLi; go_simp; exact hk.out g x (fun _ _ => rfl) (hS.go rfl)
 refine LinAll.nil fun g x hS => ?_
 subst ha0
 simp only [Act.put, List.setIfInBounds_toArray, List.set_cons_zero, List.set_cons_succ]
 clear o4 o6 o10
 have r0 : x.cell? ⟨w.heap.size, 0, none⟩ = some (.int .i64 r.w) := cell_of hS.rb 0 rfl
 have r1 : x.cell? ⟨w.heap.size, 1, none⟩ = some (.int .u64 r.lo) := cell_of hS.rb 1 rfl
 have r2 : x.cell? ⟨w.heap.size, 2, none⟩ = some (.int .u64 r.hi) := cell_of hS.rb 2 rfl
 have hB : Below w.heap.size w x := hBX.trans (hS.below (Nat.le_refl _) (Nat.le_of_lt hrX))
 clear hS
 go_wp2_with fail
 refine bodyPost_ret (v := .tuple #[.agg #[.int .i64 r.w, .int .u64 r.lo, .int .u64 r.hi], .int .i64 er]) (by simp [results, Try.results42, go_sem, r0, r1, r2]) rfl ?_
 exact ⟨rfl, hB⟩
theorem pv_op3 {w : World} {B gr mi mv mo wb mg mk i : Nat} {v : Value} {ns : List Nd} {G M : List (Int × Bt)} {n : Nd} {va vb vc r : Bt} {er : Int} (h : Gr w B gr mi mv v mo ns) (hw : Wk w wb gr mg mk G M) (hi : ns[i]? = some n) (hop1 : n.op ≠ 1) (hop2 : n.op ≠ 2) (ha : w64 n.a) (hb : w64 n.b) (hc : w64 n.c)
  (hva : va = (getM M n.a).getD zBt) (hvb : vb = (getM M n.b).getD zBt) (hvc : vc = (getM M n.c).getD zBt)
  (HA0 : ∀ wx, Calls Try.prog 44 #[.int .i64 n.op] wx fun e w' => e = .returned (.int .i64 3) ∧ w' = wx)
  (HAP : Hid (∀ wx gb, Below w.heap.size w wx → gb < wx.heap.size → Lb wx gb 0 [va, vb, vc] → Calls Try.prog 51 #[.int .i64 n.op, .int .i64 n.p, .int .i64 n.q, .slice (some ⟨gb, 0, none⟩) 3 3] wx fun e w' => e = .returned (.tuple #[.agg #[.int .i64 r.w, .int .u64 r.lo, .int .u64 r.hi], .int .i64 er]) ∧ Below wx.heap.size wx w')) :
  Calls Try.prog 42 #[.pointer (some ⟨wb, 0, none⟩), .int .i64 ((i : Int) + 1)] w fun e w' => e = .returned (.tuple #[.agg #[.int .i64 r.w, .int .u64 r.lo, .int .u64 r.hi], .int .i64 er]) ∧ Below w.heap.size w w' := by
 have c0 : w.cell? ⟨wb, 0, none⟩ = some (.pointer (some ⟨gr, 0, none⟩)) := cell_of hw.hd 0 rfl
 have d1 : w.cell? ⟨wb, 2, none⟩ = some (.map (some mk)) := cell_of hw.hd 2 rfl
 have hwb : wb < w.heap.size := (Array.getElem?_eq_some_iff.1 hw.hd).1
 have HND : Hid (∀ wx, Below w.heap.size w wx → Calls Try.prog 18 #[.pointer (some ⟨gr, 0, none⟩), .int .i64 ((i : Int) + 1)] wx fun e w' => e = .returned (.tuple #[.agg #[.int .i64 n.op, .int .i64 n.s, .int .i64 n.a, .int .i64 n.b, .int .i64 n.c, .int .i64 n.p, .int .i64 n.q, .int .i64 n.w, .int .u64 n.lo, .int .u64 n.hi, .string n.nm], .bool true]) ∧ Below wx.heap.size wx w') := fun wx hb => node_yes (h.below hb) hi
 have HKN : Hid (∀ wx, Below w.heap.size w wx → Bm wx mk M) := fun wx hb => hw.kn.kept (hb.block _ hw.kn.mp.lt)
 have HA : Hid (∀ wx, Calls Try.prog 44 #[.int .i64 n.op] wx fun e w' => e = .returned (.int .i64 3) ∧ Below wx.heap.size wx w') := fun wx => Calls.mono (HA0 wx) (fun e w' ⟨he, hw⟩ => ⟨he, by rw [hw]; exact Below.refl _ _⟩)
 have z1 : (n.op == 1) = false := by simp [hop1]
 have z2 : (n.op == 2) = false := by simp [hop2]
 clear h hw hi hop1 hop2 HA0
 go_enter Try.func42, Try.ntmps42
 go_wp2_with fail
 refine Calls.mono (HND.out _ (by go_grown)) ?_
 rintro e w1 ⟨rfl, hb1⟩
 have hB : Below w.heap.size w w1 := Below.trans (by go_grown) (hb1.mono (by simp))
 have hr : w1.heap[w.heap.size]? = some (.cells #[.int .i64 0, .int .u64 0, .int .u64 0] 25) := (hb1.block _ (by simp)).trans (heap_alloc_new w _)
 have HR : Hid _ := hr
 have hs1 : w.heap.size < w1.heap.size := by have := hb1.size; simp at this; omega
 clear hb1 hr
 go_wp2_with fail
 refine wp_world fun wR hwR => ?_
 have hsR : wR.heap.size = w1.heap.size + 1 := by rw [← hwR, size_alloc']
 have hB1 : Below w1.heap.size w1 wR := by rw [← hwR]; exact (Below.refl _ _).alloc (Nat.le_refl _) _
 have hBR : Below w.heap.size w wR := hB.trans (hB1.mono hB.size)
 have hnR : wR.heap[w1.heap.size]? = some (.cells #[.int .i64 n.op, .int .i64 n.s, .int .i64 n.a, .int .i64 n.b, .int .i64 n.c, .int .i64 n.p, .int .i64 n.q, .int .i64 n.w, .int .u64 n.lo, .int .u64 n.hi, .string n.nm] 43) := by rw [← hwR]; exact heap_alloc_new w1 _
 have hrR : wR.heap[w.heap.size]? = some (.cells #[.int .i64 0, .int .u64 0, .int .u64 0] 25) := (hB1.block _ hs1).trans HR.out
 have e1 : wR.cell? ⟨wb, 2, none⟩ = some (.map (some mk)) := bel_cell hBR hwb d1
 have n0 : wR.cell? ⟨w1.heap.size, 0, none⟩ = some (.int .i64 n.op) := cell_of hnR 0 rfl
 have n2 : wR.cell? ⟨w1.heap.size, 2, none⟩ = some (.int .i64 n.a) := cell_of hnR 2 rfl
 have n3 : wR.cell? ⟨w1.heap.size, 3, none⟩ = some (.int .i64 n.b) := cell_of hnR 3 rfl
 have n4 : wR.cell? ⟨w1.heap.size, 4, none⟩ = some (.int .i64 n.c) := cell_of hnR 4 rfl
 have n5 : wR.cell? ⟨w1.heap.size, 5, none⟩ = some (.int .i64 n.p) := cell_of hnR 5 rfl
 have n6 : wR.cell? ⟨w1.heap.size, 6, none⟩ = some (.int .i64 n.q) := cell_of hnR 6 rfl
 have hwbR : wb < wR.heap.size := Nat.lt_of_lt_of_le hwb hBR.size
 have hnlt : w1.heap.size < wR.heap.size := by omega
 have HRR : Hid _ := hrR
 have hle := hBR.size
 have hrlt : w.heap.size < wR.heap.size := by omega
 have HLa : Hid (∀ x, Below wR.heap.size wR x → (Instr.lookup 63 (.map (some mk)) (.int .i64 n.a) false).run Try.prog x = .ok (.agg #[.int .i64 va.w, .int .u64 va.lo, .int .u64 va.hi]) x) := fun x hx => by rw [hva]; exact (HKN.out x (hBR.trans (hx.mono hBR.size))).look1 ha
 have HLb : Hid (∀ x, Below wR.heap.size wR x → (Instr.lookup 63 (.map (some mk)) (.int .i64 n.b) false).run Try.prog x = .ok (.agg #[.int .i64 vb.w, .int .u64 vb.lo, .int .u64 vb.hi]) x) := fun x hx => by rw [hvb]; exact (HKN.out x (hBR.trans (hx.mono hBR.size))).look1 hb
 have HLc : Hid (∀ x, Below wR.heap.size wR x → (Instr.lookup 63 (.map (some mk)) (.int .i64 n.c) false).run Try.prog x = .ok (.agg #[.int .i64 vc.w, .int .u64 vc.lo, .int .u64 vc.hi]) x) := fun x hx => by rw [hvc]; exact (HKN.out x (hBR.trans (hx.mono hBR.size))).look1 hc
 clear hwR hnR hrR HR hB1 hB hva hvb hvc
 refine wp_named fun a0 ha0 => ?_
 have o0 := old_at ha0 (t := 0) rfl
 have o6 := old_at ha0 (t := 6) rfl
 refine wp_region_lin (S := SS wR wR.heap.size [] [(22, 23, [.int .i64 va.w, .int .u64 va.lo, .int .u64 va.hi, .int .i64 vb.w, .int .u64 vb.lo, .int .u64 vb.hi, .int .i64 vc.w, .int .u64 vc.lo, .int .u64 vc.hi])]) [22] (fun _ => 0) (by kernel_rfl) (by kernel_rfl) (by rw [← ha0]; kernel_rfl) (SS.start (Below.refl _ _) (fun p hp => by cases hp)) ?_
 refine' LinAll.cons _ ?_ ?_ ?_
 rotate_left 1
 ·intro g L a x hLi haft hS hK
  have t0 := (hK.old 0 (by kernel_rfl)).trans o0
  try dsimp only at t0
  refine go_in (wanted_all rfl) ?_
  intro K hk
  have hBx := hS.below
  clear haft hK hLi
  go_simp
  exact hS.go hk rfl
 ·intro i hi
  simp only [List.mem_cons, List.not_mem_nil, or_false] at hi
  rcases hi with rfl
  (first | exact Or.inl (fun _ _ _ => rfl) | exact Or.inr (by kernel_rfl))
 refine' LinAll.cons _ ?_ ?_ ?_
 rotate_left 1
 ·intro g L a x hLi haft hS hK
  have t43 := hK.nw haft 0 0 43 rfl (by kernel_rfl)
  try dsimp only at t43
  refine go_in (wanted_all rfl) ?_
  intro K hk
  have hBx := hS.below
  clear haft hK hLi
  go_simp
  exact hS.go hk rfl
 ·intro i hi
  simp only [List.mem_cons, List.not_mem_nil, or_false] at hi
  rcases hi with rfl
  (first | exact Or.inl (fun _ _ _ => rfl) | exact Or.inr (by kernel_rfl))
 refine' LinAll.cons _ ?_ ?_ ?_
 rotate_left 1
 ·intro g L a x hLi haft hS hK
  have t44 := hK.nw haft 1 0 44 rfl (by kernel_rfl)
  try dsimp only at t44
  refine go_in (wanted_all rfl) ?_
  intro K hk
  have hBx := hS.below
  clear haft hK hLi
  go_simp
  exact hS.go hk rfl
 ·intro i hi
  simp only [List.mem_cons, List.not_mem_nil, or_false] at hi
  rcases hi with rfl
  (first | exact Or.inl (fun _ _ _ => rfl) | exact Or.inr (by kernel_rfl))
 refine' LinAll.cons _ ?_ ?_ ?_
 rotate_left 1
 ·intro g L a x hLi haft hS hK
  have t45 := hK.nw haft 2 0 45 rfl (by kernel_rfl)
  try dsimp only at t45
  refine go_in (wanted_all rfl) ?_
  intro K hk
  have hBx := hS.below
  have q1 : x.cell? ⟨wb, 2, none⟩ = some (.map (some mk)) := bel_cell hBx hwbR e1
  clear haft hK hLi
  go_simp
  exact hS.go hk rfl
 ·intro i hi
  simp only [List.mem_cons, List.not_mem_nil, or_false] at hi
  rcases hi with rfl
  (first | exact Or.inl (fun _ _ _ => rfl) | exact Or.inr (by kernel_rfl))
 refine' LinAll.cons _ ?_ ?_ ?_
 rotate_left 1
 ·intro g L a x hLi haft hS hK
  have t6 := (hK.old 6 (by kernel_rfl)).trans o6
  try dsimp only at t6
  refine go_in (wanted_all rfl) ?_
  intro K hk
  have hBx := hS.below
  clear haft hK hLi
  go_simp
  exact hS.go hk rfl
 ·intro i hi
  simp only [List.mem_cons, List.not_mem_nil, or_false] at hi
  rcases hi with rfl
  (first | exact Or.inl (fun _ _ _ => rfl) | exact Or.inr (by kernel_rfl))
 refine' LinAll.cons _ ?_ ?_ ?_
 rotate_left 1
 ·intro g L a x hLi haft hS hK
  have t47 := hK.nw haft 4 0 47 rfl (by kernel_rfl)
  try dsimp only at t47
  refine go_in (wanted_all rfl) ?_
  intro K hk
  have hBx := hS.below
  have q2 : x.cell? ⟨w1.heap.size, 2, none⟩ = some (.int .i64 n.a) := bel_cell hBx hnlt n2
  clear haft hK hLi
  go_simp
  exact hS.go hk rfl
 ·intro i hi
  simp only [List.mem_cons, List.not_mem_nil, or_false] at hi
  rcases hi with rfl
  (first | exact Or.inl (fun _ _ _ => rfl) | exact Or.inr (by kernel_rfl))
 refine' LinAll.cons _ ?_ ?_ ?_
 rotate_left 1
 ·intro g L a x hLi haft hS hK
  have t46 := hK.nw haft 3 2 46 rfl (by kernel_rfl)
  have t48 := hK.nw haft 5 0 48 rfl (by kernel_rfl)
  try dsimp only at t46 t48
  refine go_in (wanted_all rfl) ?_
  intro K hk
  have hBx := hS.below
  have hlk := HLa.out x hBx
  clear haft hK hLi
  go_simp
  exact hS.go hk rfl
 ·intro i hi
  simp only [List.mem_cons, List.not_mem_nil, or_false] at hi
  rcases hi with rfl
  (first | exact Or.inl (fun _ _ _ => rfl) | exact Or.inr (by kernel_rfl))
 refine' LinAll.cons _ ?_ ?_ ?_
 rotate_left 1
 ·intro g L a x hLi haft hS hK
  have t0 := (hK.old 0 (by kernel_rfl)).trans o0
  try dsimp only at t0
  refine go_in (wanted_all rfl) ?_
  intro K hk
  have hBx := hS.below
  clear haft hK hLi
  go_simp
  exact hS.go hk rfl
 ·intro i hi
  simp only [List.mem_cons, List.not_mem_nil, or_false] at hi
  rcases hi with rfl
  (first | exact Or.inl (fun _ _ _ => rfl) | exact Or.inr (by kernel_rfl))
 refine' LinAll.cons _ ?_ ?_ ?_
 rotate_left 1
 ·intro g L a x hLi haft hS hK
  have t50 := hK.nw haft 7 0 50 rfl (by kernel_rfl)
  try dsimp only at t50
  refine go_in (wanted_all rfl) ?_
  intro K hk
  have hBx := hS.below
  clear haft hK hLi
  go_simp
  exact hS.go hk rfl
 ·intro i hi
  simp only [List.mem_cons, List.not_mem_nil, or_false] at hi
  rcases hi with rfl
  (first | exact Or.inl (fun _ _ _ => rfl) | exact Or.inr (by kernel_rfl))
 refine' LinAll.cons _ ?_ ?_ ?_
 rotate_left 1
 ·intro g L a x hLi haft hS hK
  have t51 := hK.nw haft 8 0 51 rfl (by kernel_rfl)
  try dsimp only at t51
  refine go_in (wanted_all rfl) ?_
  intro K hk
  have hBx := hS.below
  clear haft hK hLi
  go_simp
  exact hS.go hk rfl
 ·intro i hi
  simp only [List.mem_cons, List.not_mem_nil, or_false] at hi
  rcases hi with rfl
  (first | exact Or.inl (fun _ _ _ => rfl) | exact Or.inr (by kernel_rfl))
 refine' LinAll.cons _ ?_ ?_ ?_
 rotate_left 1
 ·intro g L a x hLi haft hS hK
  have t52 := hK.nw haft 9 0 52 rfl (by kernel_rfl)
  try dsimp only at t52
  refine go_in (wanted_all rfl) ?_
  intro K hk
  have hBx := hS.below
  have q1 : x.cell? ⟨wb, 2, none⟩ = some (.map (some mk)) := bel_cell hBx hwbR e1
  clear haft hK hLi
  go_simp
  exact hS.go hk rfl
 ·intro i hi
  simp only [List.mem_cons, List.not_mem_nil, or_false] at hi
  rcases hi with rfl
  (first | exact Or.inl (fun _ _ _ => rfl) | exact Or.inr (by kernel_rfl))
 refine' LinAll.cons _ ?_ ?_ ?_
 rotate_left 1
 ·intro g L a x hLi haft hS hK
  have t6 := (hK.old 6 (by kernel_rfl)).trans o6
  try dsimp only at t6
  refine go_in (wanted_all rfl) ?_
  intro K hk
  have hBx := hS.below
  clear haft hK hLi
  go_simp
  exact hS.go hk rfl
 ·intro i hi
  simp only [List.mem_cons, List.not_mem_nil, or_false] at hi
  rcases hi with rfl
  (first | exact Or.inl (fun _ _ _ => rfl) | exact Or.inr (by kernel_rfl))
 refine' LinAll.cons _ ?_ ?_ ?_
 rotate_left 1
 ·intro g L a x hLi haft hS hK
  have t54 := hK.nw haft 11 0 54 rfl (by kernel_rfl)
  try dsimp only at t54
  refine go_in (wanted_all rfl) ?_
  intro K hk
  have hBx := hS.below
  have q2 : x.cell? ⟨w1.heap.size, 3, none⟩ = some (.int .i64 n.b) := bel_cell hBx hnlt n3
  clear haft hK hLi
  go_simp
  exact hS.go hk rfl
 ·intro i hi
  simp only [List.mem_cons, List.not_mem_nil, or_false] at hi
  rcases hi with rfl
  (first | exact Or.inl (fun _ _ _ => rfl) | exact Or.inr (by kernel_rfl))
 refine' LinAll.cons _ ?_ ?_ ?_
 rotate_left 1
 ·intro g L a x hLi haft hS hK
  have t53 := hK.nw haft 10 2 53 rfl (by kernel_rfl)
  have t55 := hK.nw haft 12 0 55 rfl (by kernel_rfl)
  try dsimp only at t53 t55
  refine go_in (wanted_all rfl) ?_
  intro K hk
  have hBx := hS.below
  have hlk := HLb.out x hBx
  clear haft hK hLi
  go_simp
  exact hS.go hk rfl
 ·intro i hi
  simp only [List.mem_cons, List.not_mem_nil, or_false] at hi
  rcases hi with rfl
  (first | exact Or.inl (fun _ _ _ => rfl) | exact Or.inr (by kernel_rfl))
 refine' LinAll.cons _ ?_ ?_ ?_
 rotate_left 1
 ·intro g L a x hLi haft hS hK
  have t0 := (hK.old 0 (by kernel_rfl)).trans o0
  try dsimp only at t0
  refine go_in (wanted_all rfl) ?_
  intro K hk
  have hBx := hS.below
  clear haft hK hLi
  go_simp
  exact hS.go hk rfl
 ·intro i hi
  simp only [List.mem_cons, List.not_mem_nil, or_false] at hi
  rcases hi with rfl
  (first | exact Or.inl (fun _ _ _ => rfl) | exact Or.inr (by kernel_rfl))
 refine' LinAll.cons _ ?_ ?_ ?_
 rotate_left 1
 ·intro g L a x hLi haft hS hK
  have t57 := hK.nw haft 14 0 57 rfl (by kernel_rfl)
  try dsimp only at t57
  refine go_in (wanted_all rfl) ?_
  intro K hk
  have hBx := hS.below
  clear haft hK hLi
  go_simp
  exact hS.go hk rfl
 ·intro i hi
  simp only [List.mem_cons, List.not_mem_nil, or_false] at hi
  rcases hi with rfl
  (first | exact Or.inl (fun _ _ _ => rfl) | exact Or.inr (by kernel_rfl))
 refine' LinAll.cons _ ?_ ?_ ?_
 rotate_left 1
 ·intro g L a x hLi haft hS hK
  have t58 := hK.nw haft 15 0 58 rfl (by kernel_rfl)
  try dsimp only at t58
  refine go_in (wanted_all rfl) ?_
  intro K hk
  have hBx := hS.below
  clear haft hK hLi
  go_simp
  exact hS.go hk rfl
 ·intro i hi
  simp only [List.mem_cons, List.not_mem_nil, or_false] at hi
  rcases hi with rfl
  (first | exact Or.inl (fun _ _ _ => rfl) | exact Or.inr (by kernel_rfl))
 refine' LinAll.cons _ ?_ ?_ ?_
 rotate_left 1
 ·intro g L a x hLi haft hS hK
  have t59 := hK.nw haft 16 0 59 rfl (by kernel_rfl)
  try dsimp only at t59
  refine go_in (wanted_all rfl) ?_
  intro K hk
  have hBx := hS.below
  have q1 : x.cell? ⟨wb, 2, none⟩ = some (.map (some mk)) := bel_cell hBx hwbR e1
  clear haft hK hLi
  go_simp
  exact hS.go hk rfl
 ·intro i hi
  simp only [List.mem_cons, List.not_mem_nil, or_false] at hi
  rcases hi with rfl
  (first | exact Or.inl (fun _ _ _ => rfl) | exact Or.inr (by kernel_rfl))
 refine' LinAll.cons _ ?_ ?_ ?_
 rotate_left 1
 ·intro g L a x hLi haft hS hK
  have t6 := (hK.old 6 (by kernel_rfl)).trans o6
  try dsimp only at t6
  refine go_in (wanted_all rfl) ?_
  intro K hk
  have hBx := hS.below
  clear haft hK hLi
  go_simp
  exact hS.go hk rfl
 ·intro i hi
  simp only [List.mem_cons, List.not_mem_nil, or_false] at hi
  rcases hi with rfl
  (first | exact Or.inl (fun _ _ _ => rfl) | exact Or.inr (by kernel_rfl))
 refine' LinAll.cons _ ?_ ?_ ?_
 rotate_left 1
 ·intro g L a x hLi haft hS hK
  have t61 := hK.nw haft 18 0 61 rfl (by kernel_rfl)
  try dsimp only at t61
  refine go_in (wanted_all rfl) ?_
  intro K hk
  have hBx := hS.below
  have q2 : x.cell? ⟨w1.heap.size, 4, none⟩ = some (.int .i64 n.c) := bel_cell hBx hnlt n4
  clear haft hK hLi
  go_simp
  exact hS.go hk rfl
 ·intro i hi
  simp only [List.mem_cons, List.not_mem_nil, or_false] at hi
  rcases hi with rfl
  (first | exact Or.inl (fun _ _ _ => rfl) | exact Or.inr (by kernel_rfl))
 refine' LinAll.cons _ ?_ ?_ ?_
 rotate_left 1
 ·intro g L a x hLi haft hS hK
  have t60 := hK.nw haft 17 2 60 rfl (by kernel_rfl)
  have t62 := hK.nw haft 19 0 62 rfl (by kernel_rfl)
  try dsimp only at t60 t62
  refine go_in (wanted_all rfl) ?_
  intro K hk
  have hBx := hS.below
  have hlk := HLc.out x hBx
  clear haft hK hLi
  go_simp
  exact hS.go hk rfl
 ·intro i hi
  simp only [List.mem_cons, List.not_mem_nil, or_false] at hi
  rcases hi with rfl
  (first | exact Or.inl (fun _ _ _ => rfl) | exact Or.inr (by kernel_rfl))
 refine' LinAll.cons _ ?_ ?_ ?_
 rotate_left 1
 ·intro g L a x hLi haft hS hK
  have t49 := hK.nw haft 6 14 49 rfl (by kernel_rfl)
  have t56 := hK.nw haft 13 7 56 rfl (by kernel_rfl)
  have t63 := hK.nw haft 20 0 63 rfl (by kernel_rfl)
  try dsimp only at t49 t56 t63
  refine go_in (wanted_all rfl) ?_
  intro K hk
  have hBx := hS.below
  clear haft hK hLi
  go_simp
  exact hS.go hk rfl
 ·intro i hi
  simp only [List.mem_cons, List.not_mem_nil, or_false] at hi
  rcases hi with rfl
  (first | exact Or.inl (fun _ _ _ => rfl) | exact Or.inr (by kernel_rfl))
 refine LinAll.cons (fun g => .pointer (some ⟨g 22, 0, none⟩)) ?_ ?_ ?_
 ·intro g L a x hLi haft hS hK
  refine go_in (wanted_all rfl) ?_
  intro K hk
  have hBx := hS.below
  clear haft hK
  go_simp
  have hq := hk.out (updG g 22 x.heap.size) (x.alloc (.cells #[.int .i64 0, .int .u64 0, .int .u64 0, .int .i64 0, .int .u64 0, .int .u64 0, .int .i64 0, .int .u64 0, .int .u64 0] 89)) (updG_al (by rfl)) (hS.alloc hLi (by rfl))
  dsimp only at hq
  rw [updG_eq] at hq
  exact hq
 ·intro i hi
  simp only [List.mem_cons, List.not_mem_nil, or_false] at hi
  rcases hi with rfl
  exact Or.inr (by kernel_rfl)
 refine LinAll.cons (fun _ => undef) ?_ ?_ ?_
 ·intro g L a x hLi haft hS hK
  have t10 := hK.nw haft 22 0 10 rfl (by kernel_rfl)
  have t64 := hK.nw haft 21 1 64 rfl (by kernel_rfl)
  try dsimp only at t10 t64
  refine go_in (wanted_all rfl) ?_
  intro K hk
  have hBx := hS.below
  have hL22 := waits haft 22 (by kernel_rfl)
  obtain ⟨m1, m2, m3, m4⟩ := hS.made _ List.mem_cons_self hL22
  dsimp only [List.length_cons, List.length_nil] at m3 m4
  refine wp_store_mid 89 _ _ rfl (g 22) 0 #[.int .i64 va.w, .int .u64 va.lo, .int .u64 va.hi, .int .i64 vb.w, .int .u64 vb.lo, .int .u64 vb.hi, .int .i64 vc.w, .int .u64 vc.lo, .int .u64 vc.hi] (eval_tmp t10) (eval_tmp t64) (fun j hj => ⟨by simpa using m4 j hj, by simpa using m3 _⟩) (by kernel_rfl) (by first | rfl | (simp [Value.oneCell']; done) | kernel_rfl) ?_
  refine hk.out g _ (fun _ _ => rfl) (hS.store hL22 List.mem_cons_self rfl ?_)
  intro q hq e
  simp only [List.mem_cons, List.not_mem_nil, or_false] at hq
  rcases hq with rfl <;> first | rfl | exact absurd e (by simp)
 ·intro i hi
  simp only [List.mem_cons, List.not_mem_nil, or_false] at hi
  rcases hi with rfl
  (first | exact Or.inl (fun _ _ _ => rfl) | exact Or.inr (by kernel_rfl))
 refine LinAll.nil fun g0 wX hS => ?_
 subst ha0
 simp only [Act.put, List.setIfInBounds_toArray, List.set_cons_zero, List.set_cons_succ]
 clear o0 o6
 have hBx := hS.below
 obtain ⟨m1, m2, m3, m4⟩ := hS.made _ List.mem_cons_self rfl
 have hat := (hS.laid _ List.mem_cons_self rfl).2
 dsimp only at m1 m2 hat
 have HRX : Hid (wX.heap[w.heap.size]? = some (.cells [.int .i64 0, .int .u64 0, .int .u64 0].toArray 25)) := (hBx.block _ hrlt).trans HRR.out
 have hBX : Below w.heap.size w wX := hBR.trans (hBx.mono hBR.size)
 have x0 : wX.cell? ⟨w1.heap.size, 0, none⟩ = some (.int .i64 n.op) := bel_cell hBx hnlt n0
 have x5 : wX.cell? ⟨w1.heap.size, 5, none⟩ = some (.int .i64 n.p) := bel_cell hBx hnlt n5
 have x6 : wX.cell? ⟨w1.heap.size, 6, none⟩ = some (.int .i64 n.q) := bel_cell hBx hnlt n6
 have hnX : w1.heap.size < wX.heap.size := Nat.lt_of_lt_of_le hnlt hBx.size
 have hrX : w.heap.size < wX.heap.size := Nat.lt_of_lt_of_le hrlt hBx.size
 have hnr : w1.heap.size ≠ w.heap.size := by omega
 clear hS m3 m4 hBx
 generalize g0 22 = gb at m1 m2 hat ⊢
 have hgX : gb < wX.heap.size := m2
 have hgr : gb ≠ w.heap.size := by omega
 have HLB : Hid (Lb wX gb 0 [va, vb, vc]) := by
  intro j b hj t u hu
  match j, t, hj, hu with
  | 0, 0, hj, hu => cases hj; cases hu; exact hat 0 _ rfl
  | 0, 1, hj, hu => cases hj; cases hu; exact hat 1 _ rfl
  | 0, 2, hj, hu => cases hj; cases hu; exact hat 2 _ rfl
  | 1, 0, hj, hu => cases hj; cases hu; exact hat 3 _ rfl
  | 1, 1, hj, hu => cases hj; cases hu; exact hat 4 _ rfl
  | 1, 2, hj, hu => cases hj; cases hu; exact hat 5 _ rfl
  | 2, 0, hj, hu => cases hj; cases hu; exact hat 6 _ rfl
  | 2, 1, hj, hu => cases hj; cases hu; exact hat 7 _ rfl
  | 2, 2, hj, hu => cases hj; cases hu; exact hat 8 _ rfl
 clear m1 m2 hat n0 n2 n3 n4 n5 n6 HLa HLb HLc
 go_wp2_with fail
 refine wp_named fun a0 ha0 => ?_
 have o4 := old_at ha0 (t := 4) rfl
 have o6 := old_at ha0 (t := 6) rfl
 have o10 := old_at ha0 (t := 10) rfl
 refine wp_region_lin (S := LS wX w.heap.size 13 [.int .i64 0, .int .u64 0, .int .u64 0] [.int .i64 r.w, .int .u64 r.lo, .int .u64 r.hi] 25) [] (fun _ => 0) (by kernel_rfl) (by kernel_rfl) (by rw [← ha0]; kernel_rfl) (LS.start HRX.out) ?_
 apply LinAll.cons0
 ·intro g L a x hLi haft hS hK; have t6 := (hK.old 6 (by kernel_rfl)).trans o6; (try dsimp only at t6); refine go_in (wanted_all rfl) ?_; intro K hk; clear haft hK hLi; go_simp; exact hk.out g x (fun _ _ => rfl) (hS.go rfl)
 apply LinAll.cons0
 ·intro g L a x hLi haft hS hK; have t65 := hK.nw haft 0 0 65 rfl (by kernel_rfl); (try dsimp only at t65); refine go_in (wanted_all rfl) ?_; intro K hk; have q0 : x.cell? ⟨w1.heap.size, 0, none⟩ = some (.int .i64 n.op) := (World.cell?_of_block (hS.kp _ hnX hnr)).trans x0; clear haft hK hLi; go_simp; exact hk.out g x (fun _ _ => rfl) (hS.go rfl)
 apply LinAll.cons0
 ·intro g L a x hLi haft hS hK; have t6 := (hK.old 6 (by kernel_rfl)).trans o6; (try dsimp only at t6); refine go_in (wanted_all rfl) ?_; intro K hk; clear haft hK hLi; go_simp; exact hk.out g x (fun _ _ => rfl) (hS.go rfl)
 apply LinAll.cons0
 ·intro g L a x hLi haft hS hK; have t67 := hK.nw haft 2 0 67 rfl (by kernel_rfl); (try dsimp only at t67); refine go_in (wanted_all rfl) ?_; intro K hk; have q0 : x.cell? ⟨w1.heap.size, 5, none⟩ = some (.int .i64 n.p) := (World.cell?_of_block (hS.kp _ hnX hnr)).trans x5; clear haft hK hLi; go_simp; exact hk.out g x (fun _ _ => rfl) (hS.go rfl)
 apply LinAll.cons0
 ·intro g L a x hLi haft hS hK; have t6 := (hK.old 6 (by kernel_rfl)).trans o6; (try dsimp only at t6); refine go_in (wanted_all rfl) ?_; intro K hk; clear haft hK hLi; go_simp; exact hk.out g x (fun _ _ => rfl) (hS.go rfl)
 apply LinAll.cons0
 ·intro g L a x hLi haft hS hK; have t69 := hK.nw haft 4 0 69 rfl (by kernel_rfl); (try dsimp only at t69); refine go_in (wanted_all rfl) ?_; intro K hk; have q0 : x.cell? ⟨w1.heap.size, 6, none⟩ = some (.int .i64 n.q) := (World.cell?_of_block (hS.kp _ hnX hnr)).trans x6; clear haft hK hLi; go_simp; exact hk.out g x (fun _ _ => rfl) (hS.go rfl)
 apply LinAll.cons0
 ·intro g L a x hLi haft hS hK; have t6 := (hK.old 6 (by kernel_rfl)).trans o6; (try dsimp only at t6); refine go_in (wanted_all rfl) ?_; intro K hk; clear haft hK hLi; go_simp; exact hk.out g x (fun _ _ => rfl) (hS.go rfl)
 apply LinAll.cons0
 ·intro g L a x hLi haft hS hK; have t71 := hK.nw haft 6 0 71 rfl (by kernel_rfl); (try dsimp only at t71); refine go_in (wanted_all rfl) ?_; intro K hk; have q0 : x.cell? ⟨w1.heap.size, 0, none⟩ = some (.int .i64 n.op) := (World.cell?_of_block (hS.kp _ hnX hnr)).trans x0; clear haft hK hLi; go_simp; exact hk.out g x (fun _ _ => rfl) (hS.go rfl)
 apply LinAll.cons0
 ·intro g L a x hLi haft hS hK; have t72 := hK.nw haft 7 0 72 rfl (by kernel_rfl); (try dsimp only at t72); refine go_in (wanted_all rfl) ?_; intro K hk; clear haft hK hLi; go_simp; refine Calls.mono (HA.out _) ?_; rintro e y ⟨rfl, hb⟩; exact hk.out g y (fun _ _ => rfl) (hS.on hb rfl)
 apply LinAll.cons0
 ·intro g L a x hLi haft hS hK; have t10 := (hK.old 10 (by kernel_rfl)).trans o10; have t73 := hK.nw haft 8 0 73 rfl (by kernel_rfl); (try dsimp only at t10 t73); refine go_in (wanted_all rfl) ?_; intro K hk; clear haft hK hLi; go_simp; exact hk.out g x (fun _ _ => rfl) (hS.go rfl)
 apply LinAll.cons0
 ·intro g L a x hLi haft hS hK; have t66 := hK.nw haft 1 8 66 rfl (by kernel_rfl); have t68 := hK.nw haft 3 6 68 rfl (by kernel_rfl); have t70 := hK.nw haft 5 4 70 rfl (by kernel_rfl); have t74 := hK.nw haft 9 0 74 rfl (by kernel_rfl); (try dsimp only at t66 t68 t70 t74); refine go_in (wanted_all rfl) ?_; intro K hk; have hLx : Lb x gb 0 [va, vb, vc] := fun j b hj t u hu => (World.cell?_of_block (hS.kp _ hgX hgr)).trans (HLB.out j b hj t u hu); have hBy := hBX.trans (hS.below (B := w.heap.size) (Nat.le_refl _) (Nat.le_of_lt hrX)); have hgy := Nat.lt_of_lt_of_le hgX hS.sz; clear haft hK hLi; go_simp; refine Calls.mono (HAP.out _ _ hBy hgy hLx) ?_; rintro e y ⟨rfl, hb⟩; exact hk.out g y (fun _ _ => rfl) (hS.on hb rfl)
 apply LinAll.cons0
 ·intro g L a x hLi haft hS hK; have t75 := hK.nw haft 10 0 75 rfl (by kernel_rfl); (try dsimp only at t75); refine go_in (wanted_all rfl) ?_; intro K hk; clear haft hK hLi; go_simp; exact hk.out g x (fun _ _ => rfl) (hS.go rfl)
 apply LinAll.cons0
 ·intro g L a x hLi haft hS hK; have t75 := hK.nw haft 10 1 75 rfl (by kernel_rfl); (try dsimp only at t75); refine go_in (wanted_all rfl) ?_; intro K hk; clear haft hK hLi; go_simp; exact hk.out g x (fun _ _ => rfl) (hS.go rfl)
 refine LinAll.cons0 (v := fun _ => undef) ?_ ?_
 ·intro g L a x hLi haft hS hK; have t4 := (hK.old 4 (by kernel_rfl)).trans o4; have t76 := hK.nw haft 11 1 76 rfl (by kernel_rfl); (try dsimp only at t4 t76); refine go_in (wanted_all rfl) ?_; intro K hk; have hr0 := hS.rb; rw [hLi] at hr0; have q0 : x.cell? ⟨w.heap.size, 0, none⟩ = some (.int .i64 0) := cell_of hr0 0 rfl; have q1 : x.cell? ⟨w.heap.size, 1, none⟩ = some (.int .u64 0) := cell_of hr0 1 rfl; have q2 : x.cell? ⟨w.heap.size, 2, none⟩ = some (.int .u64 0) := cell_of hr0 2 rfl; have qf : ∀ j, x.frozen? ⟨w.heap.size, j, none⟩ = false := (fun j => by simp [World.frozen?, hr0]); have hst := hS.st3 hLi; clear hr0; clear haft hK; go_simp; exact hk.out g _ (fun _ _ => rfl) hst
 apply LinAll.cons0
 ·intro g L a x hLi haft hS hK; have t77 := hK.nw haft 12 1 77 rfl (by kernel_rfl); (try dsimp only at t77); refine go_in (wanted_all rfl) ?_; intro K hk; clear haft hK hLi; go_simp; exact hk.out g x (fun _ _ => rfl) (hS.go rfl)
 refine LinAll.nil fun g x hS => ?_
 subst ha0
 simp only [Act.put, List.setIfInBounds_toArray, List.set_cons_zero, List.set_cons_succ]
 clear o4 o6 o10
 have r0 : x.cell? ⟨w.heap.size, 0, none⟩ = some (.int .i64 r.w) := cell_of hS.rb 0 rfl
 have r1 : x.cell? ⟨w.heap.size, 1, none⟩ = some (.int .u64 r.lo) := cell_of hS.rb 1 rfl
 have r2 : x.cell? ⟨w.heap.size, 2, none⟩ = some (.int .u64 r.hi) := cell_of hS.rb 2 rfl
 have hB : Below w.heap.size w x := hBX.trans (hS.below (Nat.le_refl _) (Nat.le_of_lt hrX))
 clear hS
 go_wp2_with fail
 refine bodyPost_ret (v := .tuple #[.agg #[.int .i64 r.w, .int .u64 r.lo, .int .u64 r.hi], .int .i64 er]) (by simp [results, Try.results42, go_sem, r0, r1, r2]) rfl ?_
 exact ⟨rfl, hB⟩
end Go.Proofs.Ytedldoobmmhloaa
