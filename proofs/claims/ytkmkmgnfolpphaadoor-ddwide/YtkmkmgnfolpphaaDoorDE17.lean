/- Contracts (dd): Some. -/
import Derived.Test.YtkmkmgnfolpphaaDoorDE16
namespace Go.Proofs.YtkmkmgnfolpphaaDoor
open Go.RowKit
set_option linter.unusedSimpArgs false
set_option linter.unusedVariables false

/-- The way from a diagram on, and where it ends. -/
def wayF (ns : List T3) : Nat → Int → List Int × Int
  | 0, f => ([], f)
  | n + 1, f => if f ≤ 1 then ([], f) else if (at3 ns f).2.1 ≠ 0 then (-((at3 ns f).1 + 1) :: (wayF ns n (at3 ns f).2.1).1, (wayF ns n (at3 ns f).2.1).2) else (((at3 ns f).1 + 1) :: (wayF ns n (at3 ns f).2.2).1, (wayF ns n (at3 ns f).2.2).2)
theorem way_more {vars : Nat} {ns : List T3} {sp : List Int} (g : Good vars ns sp) : ∀ (n m : Nat) (f : Int), alive ns f → (vars : Int) - (at3 ns f).1 < n → (vars : Int) - (at3 ns f).1 < m → wayF ns n f = wayF ns m f := by
  intro n
  induction n with
  | zero => intro m f hf h1; have := (g.var hf).2; omega
  | succ n ih =>
    intro m f hf h1 h2
    cases m with
    | zero => have := (g.var hf).2; omega
    | succ m =>
      unfold wayF
      by_cases h3 : f ≤ 1
      · rw [if_pos h3, if_pos h3]
      · rw [if_neg h3, if_neg h3]
        obtain ⟨q1, q2, q3, q4, q5, q6, q7⟩ := g.nd f (by omega) hf
        rw [ih m _ q4 (by omega) (by omega), ih m _ q5 (by omega) (by omega)]
def somF (vars : Nat) (ns : List T3) (f : Int) : List Int × Int := wayF ns (vars + 1) f
theorem som_le {vars : Nat} {ns : List T3} {f : Int} (h : f ≤ 1) : somF vars ns f = ([], f) := by unfold somF wayF; rw [if_pos h]
theorem som_step {vars : Nat} {ns : List T3} {sp : List Int} (g : Good vars ns sp) {f : Int} (hf : alive ns f) (h2 : 2 ≤ f) :
    somF vars ns f = if (at3 ns f).2.1 ≠ 0 then (-((at3 ns f).1 + 1) :: (somF vars ns (at3 ns f).2.1).1, (somF vars ns (at3 ns f).2.1).2) else (((at3 ns f).1 + 1) :: (somF vars ns (at3 ns f).2.2).1, (somF vars ns (at3 ns f).2.2).2) := by
  obtain ⟨q1, q2, q3, q4, q5, q6, q7⟩ := g.nd f h2 hf
  unfold somF
  rw [way_more g (vars + 1) vars (at3 ns f).2.1 q4 (by omega) (by omega), way_more g (vars + 1) vars (at3 ns f).2.2 q5 (by omega) (by omega)]
  rw [wayF, if_neg (by omega)]
theorem way_len {ns : List T3} : ∀ (n : Nat) (f : Int), (wayF ns n f).1.length ≤ n := by
  intro n
  induction n with
  | zero => intro f; exact Nat.le_refl _
  | succ n ih =>
    intro f
    unfold wayF
    split
    · simp
    · split
      · simp; exact ih _
      · simp; exact ih _
/-- A region that appends a number to a slice, and reads beside it. -/
structure PS (wr : World) (B : Nat) (q : Value) (L : List Int) (xi : Int) (ib ia : Nat) (g : Nat → Nat) (D : Nat → Bool) (x : World) : Prop where
  d : D ia = true → D ib = true
  bel : Below B wr x
  low : B ≤ wr.heap.size
  oth : ∀ k, k < wr.heap.size → some k ≠ q.ownBlock → x.heap[k]? = wr.heap[k]?
  s : D ib = true → D ia = false → x.heap[g ib]? = some (.cells #[.int .i64 xi] 3)
  r0 : D ia = false → Is' x B q L
  r : D ia = true → Is' x B (sl (L.length + 1) (g ia)) (L ++ [xi])
section
variable {wr x y : World} {B : Nat} {q : Value} {L : List Int} {xi : Int} {ib ia i pc : Nat} {g : Nat → Nat} {D : Nat → Bool}
theorem PS.start (h : Is' wr B q L) (hB : B ≤ wr.heap.size) : PS wr B q L xi ib ia (fun _ => 0) (fun _ => false) wr.drew :=
  ⟨(fun e => nomatch e), ⟨rfl, rfl, rfl, Nat.le_refl _, fun _ _ => rfl⟩, hB, fun _ _ _ => rfl, (fun e => nomatch e), fun _ => h, fun e => nomatch e⟩
theorem PS.go (h : PS wr B q L xi ib ia g D x) (hi : (i != ib && i != ia) = true) : PS wr B q L xi ib ia g (updB D i) x := by
  simp only [Bool.and_eq_true, bne_iff_ne, ne_eq] at hi
  have u1 := updB_ne (L := D) (i := i) (k := ib) (by omega)
  have u2 := updB_ne (L := D) (i := i) (k := ia) (by omega)
  exact ⟨by rw [u1, u2]; exact h.d, h.bel, h.low, h.oth, by rw [u1, u2]; exact h.s, by rw [u2]; exact h.r0, by rw [u2]; exact h.r⟩
theorem PS.built (h : PS wr B q L xi ib ia g D x) (hne : (ib != ia) = true) (hb : D ib = false) : PS wr B q L xi ib ia (updG g ib x.heap.size) (updB D ib) (x.alloc (.cells #[.int .i64 xi] 3)) := by
  have hne' : ib ≠ ia := by simpa using hne
  have ha : D ia = false := by
    cases e : D ia
    · rfl
    · rw [h.d e] at hb; cases hb
  have u2 := updB_ne (L := D) (i := ib) (k := ia) (by omega)
  have hs := h.bel.size
  have hl := h.low
  refine ⟨(by rw [u2, ha]; intro e; cases e), h.bel.alloc (by omega) _, h.low, fun k hk hq => (heap_alloc_old _ _ (by omega)).trans (h.oth k hk hq), (fun _ _ => by rw [updG_eq]; exact heap_alloc_new _ _), fun _ => row_kept (h.r0 ha) (fun k hk => heap_alloc_old _ _ hk), by rw [u2, ha]; intro e; cases e⟩
theorem PS.app (h : PS wr B q L xi ib ia g D x) (hne : (ib != ia) = true) {mm : Nat} (hm : mm = L.length) (hb : D ib = true) (ha : D ia = false) (hown : Is' y B (sl (mm + 1) pc) (L ++ [xi])) (hg : x.grownBy y q.ownBlock) (hq : ∀ b, q.ownBlock = some b → B ≤ b ∧ b < x.heap.size) : PS wr B q L xi ib ia (updG g ia pc) (updB D ia) y := by
  have hne' : ib ≠ ia := by simpa using hne
  have u1 := updB_ne (L := D) (i := ia) (k := ib) (by omega)
  have hs := h.bel.size
  have hl := h.low
  refine ⟨fun _ => by rw [u1]; exact hb, h.bel.grown hg (by omega) (fun k e => (hq k e).1), h.low, fun k hk hk2 => (hg.block k (by omega) hk2).trans (h.oth k hk hk2), (fun _ e => by rw [updB_eq] at e; cases e), (fun e => by rw [updB_eq] at e; cases e), fun _ => by rw [updG_eq, ← hm]; exact hown⟩
end
theorem wp_append_any : True := trivial
set_option maxRecDepth 20000 in
set_option maxHeartbeats 3200000 in
theorem some_any {w : World} {F : Nat → Prop} {g vars most : Nat} {S : St} {pn : Int → Int} (h : Gr w F g vars most S pn) (f : Int) (ha : alive S.ns f) :
    Calls Tryd.prog 12 #[.pointer (some ⟨g, 0, none⟩), .int .i64 f] w fun e w' => ∃ u, e = .returned (.tuple #[u, .bool (decide ((somF vars S.ns f).2 = 1)), .int .i64 0]) ∧ Is' w' w.heap.size u (somF vars S.ns f).1 ∧ Below w.heap.size w w' := by
  have HH : Hid _ := has_any h f
  have HH2 : Hid (Calls Tryd.prog 38 #[.pointer (some ⟨g, 1, none⟩), .int .i64 f] w fun e w' => e = .returned (.bool true) ∧ w' = w) := by
    have := HH.out
    rwa [decide_eq_true ha] at this
  obtain ⟨ti, ht0, hz0, hz1, hz2⟩ := info_any infoInt
  have HI0 : Hid _ := (⟨ht0, hz0, hz1, hz2⟩ : Tryd.prog.info? 3 = some ti ∧ ti.zero = _ ∧ ti.size = 1 ∧ ti.bytes = 8)
  clear ht0 hz0 hz1 hz2
  have hvr := h.mg.vr
  have HGOOD : Hid _ := h.mg.good
  obtain ⟨m, p, vn, u, hx, -⟩ := h
  have hg := hx.lt
  have c2 := hx.c2
  have hl := hx.mg.len
  have hmo := hx.mg.mo
  obtain ⟨r, cap, rfl, hrl, -, -, hc⟩ := hx.sl
  have HC : Hid _ := hc
  have HC2 : Hid (w.cell? ⟨g, 2, none⟩ = _) := c2
  obtain ⟨Z, hZ⟩ : ∃ Z, Z = somF vars S.ns f := ⟨_, rfl⟩
  rw [← hZ]
  have HZ : Hid _ := hZ
  have HA : Hid (alive S.ns f) := ha
  have HZL : Hid (Z.1.length ≤ 5000) := by unfold Hid; rw [hZ]; have := way_len (ns := S.ns) (vars + 1) f; unfold somF; omega
  clear hx hc hZ ha HH c2
  go_enter Tryd.func12, Tryd.ntmps12
  go_wp2_with fail
  refine HH2.out.mono ?_
  rintro e w0 ⟨rfl, hw0⟩
  rw [hw0]
  clear hw0 w0
  go_wp2_with fail
  go_loopw [7, 1] (fun q i wr => ∃ (x : Int) (L : List Int), i = .int .i64 x ∧ Hid (Is' wr w.heap.size q L) ∧ Hid (alive S.ns x ∧ (L ++ (somF vars S.ns x).1, (somF vars S.ns x).2) = Z) ∧ Below w.heap.size w wr) (fun _ i wr => ((vars : Int) - (at3 S.ns (intOf i)).1).toNat)
  case atStart => exact ⟨f, [], rfl, World.ownsRow_nil _ _ _ _, ⟨HA.out, by rw [HZ.out]; rfl⟩, Below.refl _ _⟩
  case round =>
    obtain ⟨x, Lq, rfl, hL, hH, hB⟩ := hrel
    obtain ⟨q, hqq⟩ : ∃ q, q = u7 := ⟨_, rfl⟩
    rw [← hqq] at hL ⊢
    clear hqq
    have HI : Hid _ := isNode_any x
    by_cases h2 : 2 ≤ x
    · have HI2 : Hid (∀ wx, Calls Tryd.prog 39 #[.int .i64 x] wx fun e w' => e = .returned (.bool true) ∧ w' = wx) := fun wx => by
        have := HI.out wx
        rwa [decide_eq_true (by omega)] at this
      obtain ⟨ha, hval⟩ := hH.out
      obtain ⟨q1, q2, q3, q4, q5, q6, q7⟩ := HGOOD.out.nd x h2 ha
      have hst := som_step HGOOD.out ha h2
      obtain ⟨j, rfl, hj⟩ := ha.nat
      obtain ⟨k0, k1, k2⟩ := HC.out j hj
      obtain ⟨V, hV⟩ : ∃ V : Int, V = (at3 S.ns (j : Int)).1 := ⟨_, rfl⟩
      obtain ⟨Lo, hLo⟩ : ∃ V, V = (at3 S.ns (j : Int)).2.1 := ⟨_, rfl⟩
      obtain ⟨Hi, hHi⟩ : ∃ V, V = (at3 S.ns (j : Int)).2.2 := ⟨_, rfl⟩
      rw [← hV] at k0
      rw [← hLo] at k1
      rw [← hHi] at k2
      replace k0 := bel_cell hB hrl k0
      replace k1 := bel_cell hB hrl k1
      replace k2 := bel_cell hB hrl k2
      have d2 := bel_cell hB hg HC2.out
      obtain ⟨N, hN⟩ : ∃ N, N = S.ns.length := ⟨_, rfl⟩
      rw [← hN] at d2
      have hjI : (j : Int) < (N : Int) := by omega
      have hNb : N ≤ 20000 := by omega
      have hVb : 0 ≤ V ∧ V ≤ 4096 := by omega
      have hsz := hB.size
      have HWR : Hid (IntKind.i64.wrap (-(V + 1)) = -(V + 1)) := by unfold Hid; rw [IntKind.wrap_i64]; omega
      obtain ⟨mm, hmm⟩ : ∃ mm, mm = Lq.length := ⟨_, rfl⟩
      have HM : Hid _ := hmm
      have hmb : mm ≤ 5000 := by
        have := HZL.out
        rw [← hval, hmm] at *
        simp only [List.length_append] at this
        omega
      have HNLo : Hid (Lo ≠ 0 → (Lq ++ [-(V + 1)]) ++ (somF vars S.ns Lo).1 = Z.1 ∧ (somF vars S.ns Lo).2 = Z.2 ∧ alive S.ns Lo ∧ ((vars : Int) - (at3 S.ns Lo).1).toNat < ((vars : Int) - (at3 S.ns (j : Int)).1).toNat) := fun hne => by
        rw [← hLo, if_pos hne, ← hV] at hst
        rw [← hval, hst, hLo]
        exact ⟨by simp, rfl, q4, by have := (HGOOD.out.var q4).2; omega⟩
      have HNHi : Hid (Lo = 0 → (Lq ++ [V + 1]) ++ (somF vars S.ns Hi).1 = Z.1 ∧ (somF vars S.ns Hi).2 = Z.2 ∧ alive S.ns Hi ∧ ((vars : Int) - (at3 S.ns Hi).1).toNat < ((vars : Int) - (at3 S.ns (j : Int)).1).toNat) := fun he => by
        rw [← hLo, if_neg (by simp [he]), ← hV] at hst
        rw [← hval, hst, hHi]
        exact ⟨by simp, rfl, q5, by have := (HGOOD.out.var q5).2; omega⟩
      clear hH ha hval q1 q2 q3 q4 q5 q6 q7 hst hV hLo hHi hN hmm HI hj
      by_cases hlo : Lo = 0
      · have hb : (Lo != 0) = false := by simp [hlo]
        have HNX : Hid _ := HNHi.out hlo
        clear hlo
        go_wp2_with fail
        refine (HI2.out _).mono ?_
        rintro e w0 ⟨rfl, hw0⟩
        rw [hw0]
        clear hw0 w0
        go_wp2_with fail
        obtain ⟨W, hW⟩ : ∃ W, W = wr.alloc (.cells #[.int .i64 V, .int .i64 Lo, .int .i64 Hi] 80) := ⟨_, rfl⟩
        obtain ⟨nb, hnb⟩ : ∃ nb, nb = wr.heap.size := ⟨_, rfl⟩
        have hLW : w.heap.size ≤ W.heap.size := by rw [hW, size_alloc']; omega
        have HLW : Hid (Is' W w.heap.size q Lq) := by unfold Hid; rw [hW]; exact row_kept hL.out (fun k hk => heap_alloc_old _ _ hk)
        have HNB : Hid (nb < W.heap.size ∧ some nb ≠ q.ownBlock) := by
          refine ⟨by rw [hnb, hW, size_alloc']; omega, fun e => ?_⟩
          have := (World.ownsRow.lt hL.out nb e.symm).2
          omega
        have HCX : Hid (W.cell? ⟨nb, 2, none⟩ = some (.int .i64 Hi)) := by unfold Hid; rw [hnb, hW]; simp
        have HBW : Hid (Below w.heap.size w W) := by unfold Hid; rw [hW]; exact hB.alloc hsz _
        rw [← hW, ← hnb]
        clear hW hnb k0 k1 k2 d2 HI2
        refine wp_named fun a0 ha0 => ?_
        have o7 := old_at ha0 (t := 7) rfl
        have o8 := old_at ha0 (t := 8) rfl
        have o9 := old_at ha0 (t := 9) rfl
        refine wp_region_lin (S := PS W w.heap.size q Lq (V + 1) 2 3) [2, 3] (fun _ => 0) (by kernel_rfl) (by kernel_rfl) (by rw [← ha0]; kernel_rfl) (PS.start HLW.out hLW) ?_
        refine' LinAll.cons _ ?_ ?_ ?_
        rotate_left 1
        · intro gg L a x hLi haft hS hK
          have hL7 : L 6 = false := off_b (fun e => waits (hK.cl 6 _ rfl e) 0 (by kernel_rfl)) hLi
          have t7 := (hK.pend1 7 6 (by kernel_rfl) hL7).trans o7
          (try dsimp only at t7)
          refine go_in (wanted_all rfl) ?_
          intro K hk
          clear haft hK hLi
          go_simp
          exact hk.out gg x (fun _ _ => rfl) (hS.go (by decide))
        · intro i hi; exact Or.inl (fun _ _ _ => rfl)
        refine' LinAll.cons _ ?_ ?_ ?_
        rotate_left 1
        · intro gg L a x hLi haft hS hK
          have t9 := (hK.old 9 (by kernel_rfl)).trans o9
          (try dsimp only at t9)
          refine go_in (wanted_all rfl) ?_
          intro K hk
          clear haft hK hLi
          go_simp
          exact hk.out gg x (fun _ _ => rfl) (hS.go (by decide))
        · intro i hi; exact Or.inl (fun _ _ _ => rfl)
        refine LinAll.cons (fun g => .slice (some ⟨g 2, 0, none⟩) 1 1) ?_ ?_ ?_
        · intro gg L a x hLi haft hS hK
          have t40 := hK.new 1 0 _ 40 _ rfl rfl rfl (by kernel_rfl) (waits haft 1 (by kernel_rfl))
          (try dsimp only at t40)
          refine go_in (wanted_all rfl) ?_
          intro K hk
          clear haft hK
          go_simp
          try rw [HWR.out]
          have hq := hk.out (updG gg 2 x.heap.size) _ (updG_al (by rfl)) (hS.built (by decide) hLi)
          dsimp only at hq; rw [updG_eq] at hq; exact hq
        · intro i hi
          simp only [List.mem_cons, List.not_mem_nil, or_false] at hi
          rcases hi with rfl | rfl
          · exact Or.inr (by kernel_rfl)
          · exact Or.inl (fun g g' h => by simp only [h 2 (by decide)])
        refine LinAll.cons (fun g => sl (mm + 1) (g 3)) ?_ ?_ ?_
        · intro gg L a x hLi haft hS hK
          have t39 := hK.new 0 2 _ 39 _ rfl rfl rfl (by kernel_rfl) (waits haft 0 (by kernel_rfl))
          have t41 := hK.new 2 0 _ 41 _ rfl rfl rfl (by kernel_rfl) (waits haft 2 (by kernel_rfl))
          (try dsimp only at t39 t41)
          refine go_in (wanted_all rfl) ?_
          intro K hk
          have hLb := waits haft 2 (by kernel_rfl)
          have hb6 := hS.s hLb hLi
          refine wp_append_at _ (.tmp 39) (.tmp 41) 45 rfl w.heap.size 3 ti _ 1 8 underInts HI0.out.1 HI0.out.2.1 HI0.out.2.2.1 HI0.out.2.2.2 rfl (by decide) q mm _ (eval_tmp t39) (by rw [HM.out]; exact hS.r0 hLi) ⟨gg 2, 0, none⟩ 1 1 [.int .i64 (V + 1)] (eval_tmp t41) rfl (fun j u hj => by
            have e : (⟨gg 2, 0, none⟩ : Addr).add j = ⟨gg 2, j, none⟩ := by simp [Addr.add]; try (intro hq; exact hq.symm)
            rw [e]; exact cell_of hb6 j (by simpa using hj)) (by intro y hy; rw [List.mem_singleton.1 hy]; rfl) (by unfold maxLen; omega) (by omega) (by have := hS.bel.size; omega) ?_
          intro v' y hown hgrow hat
          obtain ⟨pc, rfl⟩ := sl_own hown (by omega)
          have hown2 : Is' y w.heap.size (sl (mm + 1) pc) (Lq ++ [V + 1]) := is_app (m := [V + 1]) hown HM.out
          have hq := hk.out (updG gg 3 pc) y (updG_al (by rfl)) (hS.app (by decide) HM.out hLb hLi hown2 hgrow (World.ownsRow.lt (hS.r0 hLi)))
          dsimp only at hq; rw [updG_eq] at hq; exact hq
        · intro i hi
          simp only [List.mem_cons, List.not_mem_nil, or_false] at hi
          rcases hi with rfl | rfl
          · exact Or.inl (fun g g' h => by simp only [h 3 (by decide)])
          · exact Or.inr (by kernel_rfl)
        refine' LinAll.cons _ ?_ ?_ ?_
        rotate_left 1
        · intro gg L a x hLi haft hS hK
          have t8 := (hK.old 8 (by kernel_rfl)).trans o8
          (try dsimp only at t8)
          refine go_in (wanted_all rfl) ?_
          intro K hk
          clear haft hK hLi
          go_simp
          exact hk.out gg x (fun _ _ => rfl) (hS.go (by decide))
        · intro i hi; exact Or.inl (fun _ _ _ => rfl)
        refine' LinAll.cons _ ?_ ?_ ?_
        rotate_left 1
        · intro gg L a x hLi haft hS hK
          have t43 := hK.new 4 0 _ 43 _ rfl rfl rfl (by kernel_rfl) (waits haft 4 (by kernel_rfl))
          (try dsimp only at t43)
          have cX : x.cell? ⟨nb, 2, none⟩ = some (.int .i64 Hi) := (World.cell?_of_block (hS.oth _ HNB.out.1 HNB.out.2)).trans HCX.out
          refine go_in (wanted_all rfl) ?_
          intro K hk
          clear haft hK hLi
          go_simp
          exact hk.out gg x (fun _ _ => rfl) (hS.go (by decide))
        · intro i hi; exact Or.inl (fun _ _ _ => rfl)
        refine' LinAll.cons _ ?_ ?_ ?_
        rotate_left 1
        · intro gg L a x hLi haft hS hK
          have t42 := hK.new 3 2 _ 42 _ rfl rfl rfl (by kernel_rfl) (waits haft 3 (by kernel_rfl))
          (try dsimp only at t42)
          refine go_in (wanted_all rfl) ?_
          intro K hk
          clear haft hK hLi
          go_simp
          exact hk.out gg x (fun _ _ => rfl) (hS.go (by decide))
        · intro i hi
          simp only [List.mem_cons, List.not_mem_nil, or_false] at hi
          rcases hi with rfl | rfl
          · exact Or.inl (fun g g' h => by simp only [h 3 (by decide)])
          · exact Or.inr (by kernel_rfl)
        refine' LinAll.cons _ ?_ ?_ ?_
        rotate_left 1
        · intro gg L a x hLi haft hS hK
          have t44 := hK.new 5 1 _ 44 _ rfl rfl rfl (by kernel_rfl) (waits haft 5 (by kernel_rfl))
          (try dsimp only at t44)
          refine go_in (wanted_all rfl) ?_
          intro K hk
          clear haft hK hLi
          go_simp
          exact hk.out gg x (fun _ _ => rfl) (hS.go (by decide))
        · intro i hi; exact Or.inl (fun _ _ _ => rfl)
        refine LinAll.nil fun gg x hS => ?_
        subst ha0
        simp only [Act.put, List.setIfInBounds_toArray, List.set_cons_zero, List.set_cons_succ]
        clear o7 o8 o9
        have hrow := hS.r rfl
        have HRW : Hid _ := hrow
        have HBX : Hid (Below w.heap.size w x) := HBW.out.trans hS.bel
        clear hS hrow
        go_wp2_with fail
        refine ⟨⟨Hi, Lq ++ [V + 1], rfl, ?_, ⟨HNX.out.2.2.1, Prod.ext HNX.out.1 HNX.out.2.1⟩, HBX.out⟩, by simp only [intOf]; exact HNX.out.2.2.2⟩
        rw [HM.out]; exact HRW.out
      · have hb : (Lo != 0) = true := by simp [hlo]
        have HNX : Hid _ := HNLo.out hlo
        clear hlo
        go_wp2_with fail
        refine (HI2.out _).mono ?_
        rintro e w0 ⟨rfl, hw0⟩
        rw [hw0]
        clear hw0 w0
        go_wp2_with fail
        obtain ⟨W, hW⟩ : ∃ W, W = wr.alloc (.cells #[.int .i64 V, .int .i64 Lo, .int .i64 Hi] 80) := ⟨_, rfl⟩
        obtain ⟨nb, hnb⟩ : ∃ nb, nb = wr.heap.size := ⟨_, rfl⟩
        have hLW : w.heap.size ≤ W.heap.size := by rw [hW, size_alloc']; omega
        have HLW : Hid (Is' W w.heap.size q Lq) := by unfold Hid; rw [hW]; exact row_kept hL.out (fun k hk => heap_alloc_old _ _ hk)
        have HNB : Hid (nb < W.heap.size ∧ some nb ≠ q.ownBlock) := by
          refine ⟨by rw [hnb, hW, size_alloc']; omega, fun e => ?_⟩
          have := (World.ownsRow.lt hL.out nb e.symm).2
          omega
        have HCX : Hid (W.cell? ⟨nb, 1, none⟩ = some (.int .i64 Lo)) := by unfold Hid; rw [hnb, hW]; simp
        have HBW : Hid (Below w.heap.size w W) := by unfold Hid; rw [hW]; exact hB.alloc hsz _
        rw [← hW, ← hnb]
        clear hW hnb k0 k1 k2 d2 HI2
        refine wp_named fun a0 ha0 => ?_
        have o7 := old_at ha0 (t := 7) rfl
        have o8 := old_at ha0 (t := 8) rfl
        have o9 := old_at ha0 (t := 9) rfl
        refine wp_region_lin (S := PS W w.heap.size q Lq (-(V + 1)) 3 4) [3, 4] (fun _ => 0) (by kernel_rfl) (by kernel_rfl) (by rw [← ha0]; kernel_rfl) (PS.start HLW.out hLW) ?_
        refine' LinAll.cons _ ?_ ?_ ?_
        rotate_left 1
        · intro gg L a x hLi haft hS hK
          have hL7 : L 7 = false := off_b (fun e => waits (hK.cl 7 _ rfl e) 0 (by kernel_rfl)) hLi
          have t7 := (hK.pend1 7 7 (by kernel_rfl) hL7).trans o7
          (try dsimp only at t7)
          refine go_in (wanted_all rfl) ?_
          intro K hk
          clear haft hK hLi
          go_simp
          exact hk.out gg x (fun _ _ => rfl) (hS.go (by decide))
        · intro i hi; exact Or.inl (fun _ _ _ => rfl)
        refine' LinAll.cons _ ?_ ?_ ?_
        rotate_left 1
        · intro gg L a x hLi haft hS hK
          have t9 := (hK.old 9 (by kernel_rfl)).trans o9
          (try dsimp only at t9)
          refine go_in (wanted_all rfl) ?_
          intro K hk
          clear haft hK hLi
          go_simp
          exact hk.out gg x (fun _ _ => rfl) (hS.go (by decide))
        · intro i hi; exact Or.inl (fun _ _ _ => rfl)
        refine' LinAll.cons _ ?_ ?_ ?_
        rotate_left 1
        · intro gg L a x hLi haft hS hK
          have t33 := hK.new 1 0 _ 33 _ rfl rfl rfl (by kernel_rfl) (waits haft 1 (by kernel_rfl))
          (try dsimp only at t33)
          refine go_in (wanted_all rfl) ?_
          intro K hk
          clear haft hK hLi
          go_simp
          exact hk.out gg x (fun _ _ => rfl) (hS.go (by decide))
        · intro i hi; exact Or.inl (fun _ _ _ => rfl)
        refine LinAll.cons (fun g => .slice (some ⟨g 3, 0, none⟩) 1 1) ?_ ?_ ?_
        · intro gg L a x hLi haft hS hK
          have t34 := hK.new 2 0 _ 34 _ rfl rfl rfl (by kernel_rfl) (waits haft 2 (by kernel_rfl))
          (try dsimp only at t34)
          refine go_in (wanted_all rfl) ?_
          intro K hk
          clear haft hK
          go_simp
          try rw [HWR.out]
          have hq := hk.out (updG gg 3 x.heap.size) _ (updG_al (by rfl)) (hS.built (by decide) hLi)
          dsimp only at hq; rw [updG_eq] at hq; exact hq
        · intro i hi
          simp only [List.mem_cons, List.not_mem_nil, or_false] at hi
          rcases hi with rfl | rfl
          · exact Or.inr (by kernel_rfl)
          · exact Or.inl (fun g g' h => by simp only [h 3 (by decide)])
        refine LinAll.cons (fun g => sl (mm + 1) (g 4)) ?_ ?_ ?_
        · intro gg L a x hLi haft hS hK
          have t32 := hK.new 0 3 _ 32 _ rfl rfl rfl (by kernel_rfl) (waits haft 0 (by kernel_rfl))
          have t35 := hK.new 3 0 _ 35 _ rfl rfl rfl (by kernel_rfl) (waits haft 3 (by kernel_rfl))
          (try dsimp only at t32 t35)
          refine go_in (wanted_all rfl) ?_
          intro K hk
          have hLb := waits haft 3 (by kernel_rfl)
          have hb6 := hS.s hLb hLi
          refine wp_append_at _ (.tmp 32) (.tmp 35) 45 rfl w.heap.size 3 ti _ 1 8 underInts HI0.out.1 HI0.out.2.1 HI0.out.2.2.1 HI0.out.2.2.2 rfl (by decide) q mm _ (eval_tmp t32) (by rw [HM.out]; exact hS.r0 hLi) ⟨gg 3, 0, none⟩ 1 1 [.int .i64 (-(V + 1))] (eval_tmp t35) rfl (fun j u hj => by
            have e : (⟨gg 3, 0, none⟩ : Addr).add j = ⟨gg 3, j, none⟩ := by simp [Addr.add]; try (intro hq; exact hq.symm)
            rw [e]; exact cell_of hb6 j (by simpa using hj)) (by intro y hy; rw [List.mem_singleton.1 hy]; rfl) (by unfold maxLen; omega) (by omega) (by have := hS.bel.size; omega) ?_
          intro v' y hown hgrow hat
          obtain ⟨pc, rfl⟩ := sl_own hown (by omega)
          have hown2 : Is' y w.heap.size (sl (mm + 1) pc) (Lq ++ [-(V + 1)]) := is_app (m := [-(V + 1)]) hown HM.out
          have hq := hk.out (updG gg 4 pc) y (updG_al (by rfl)) (hS.app (by decide) HM.out hLb hLi hown2 hgrow (World.ownsRow.lt (hS.r0 hLi)))
          dsimp only at hq; rw [updG_eq] at hq; exact hq
        · intro i hi
          simp only [List.mem_cons, List.not_mem_nil, or_false] at hi
          rcases hi with rfl | rfl
          · exact Or.inl (fun g g' h => by simp only [h 4 (by decide)])
          · exact Or.inr (by kernel_rfl)
        refine' LinAll.cons _ ?_ ?_ ?_
        rotate_left 1
        · intro gg L a x hLi haft hS hK
          have t8 := (hK.old 8 (by kernel_rfl)).trans o8
          (try dsimp only at t8)
          refine go_in (wanted_all rfl) ?_
          intro K hk
          clear haft hK hLi
          go_simp
          exact hk.out gg x (fun _ _ => rfl) (hS.go (by decide))
        · intro i hi; exact Or.inl (fun _ _ _ => rfl)
        refine' LinAll.cons _ ?_ ?_ ?_
        rotate_left 1
        · intro gg L a x hLi haft hS hK
          have t37 := hK.new 5 0 _ 37 _ rfl rfl rfl (by kernel_rfl) (waits haft 5 (by kernel_rfl))
          (try dsimp only at t37)
          have cX : x.cell? ⟨nb, 1, none⟩ = some (.int .i64 Lo) := (World.cell?_of_block (hS.oth _ HNB.out.1 HNB.out.2)).trans HCX.out
          refine go_in (wanted_all rfl) ?_
          intro K hk
          clear haft hK hLi
          go_simp
          exact hk.out gg x (fun _ _ => rfl) (hS.go (by decide))
        · intro i hi; exact Or.inl (fun _ _ _ => rfl)
        refine' LinAll.cons _ ?_ ?_ ?_
        rotate_left 1
        · intro gg L a x hLi haft hS hK
          have t36 := hK.new 4 2 _ 36 _ rfl rfl rfl (by kernel_rfl) (waits haft 4 (by kernel_rfl))
          (try dsimp only at t36)
          refine go_in (wanted_all rfl) ?_
          intro K hk
          clear haft hK hLi
          go_simp
          exact hk.out gg x (fun _ _ => rfl) (hS.go (by decide))
        · intro i hi
          simp only [List.mem_cons, List.not_mem_nil, or_false] at hi
          rcases hi with rfl | rfl
          · exact Or.inl (fun g g' h => by simp only [h 4 (by decide)])
          · exact Or.inr (by kernel_rfl)
        refine' LinAll.cons _ ?_ ?_ ?_
        rotate_left 1
        · intro gg L a x hLi haft hS hK
          have t38 := hK.new 6 1 _ 38 _ rfl rfl rfl (by kernel_rfl) (waits haft 6 (by kernel_rfl))
          (try dsimp only at t38)
          refine go_in (wanted_all rfl) ?_
          intro K hk
          clear haft hK hLi
          go_simp
          exact hk.out gg x (fun _ _ => rfl) (hS.go (by decide))
        · intro i hi; exact Or.inl (fun _ _ _ => rfl)
        refine LinAll.nil fun gg x hS => ?_
        subst ha0
        simp only [Act.put, List.setIfInBounds_toArray, List.set_cons_zero, List.set_cons_succ]
        clear o7 o8 o9
        have hrow := hS.r rfl
        have HRW : Hid _ := hrow
        have HBX : Hid (Below w.heap.size w x) := HBW.out.trans hS.bel
        clear hS hrow
        go_wp2_with fail
        refine ⟨⟨Lo, Lq ++ [-(V + 1)], rfl, ?_, ⟨HNX.out.2.2.1, Prod.ext HNX.out.1 HNX.out.2.1⟩, HBX.out⟩, by simp only [intOf]; exact HNX.out.2.2.2⟩
        rw [HM.out]; exact HRW.out
    · have HI2 : Hid (∀ wx, Calls Tryd.prog 39 #[.int .i64 x] wx fun e w' => e = .returned (.bool false) ∧ w' = wx) := fun wx => by
        have := HI.out wx
        rwa [decide_eq_false (by omega)] at this
      have HE : Hid (Z = (Lq, x)) := by
        unfold Hid
        rw [← hH.out.2, som_le (by omega)]; simp
      clear HI hH
      go_wp2_with fail
      refine (HI2.out _).mono ?_
      rintro e w0 ⟨rfl, hw0⟩
      rw [hw0]
      clear hw0 w0
      go_wp2_with fail
      refine bodyPost_ret (v := .tuple #[q, .bool (x == 1), .int .i64 0]) (by simp [results, Tryd.results12, go_sem]) rfl ?_
      rw [HE.out]
      refine ⟨q, ?_, hL.out, hB⟩
      by_cases e : x = 1 <;> simp [e]
end Go.Proofs.YtkmkmgnfolpphaaDoor
