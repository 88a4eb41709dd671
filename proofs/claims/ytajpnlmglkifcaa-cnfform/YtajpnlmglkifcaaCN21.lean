/- Contracts (the law's examples): known. -/
import Derived.Test.YtajpnlmglkifcaaCN18
import Derived.Test.YtajpnlmglkifcaaCNK
namespace Go.Proofs.Ytajpnlmglkifcaa
open Go.RowKit
set_option linter.unusedSimpArgs false
set_option linter.unusedVariables false

/-- A list of one list of one number, just built. -/
theorem ls_one {w : World} {B2 b1 b2 : Nat} {x : Int} (h1 : w.heap[b1]? = some (.cells #[.int .i64 x] 3 (0, 0))) (h2 : w.heap[b2]? = some (.cells #[.slice (some ⟨b1, 0, none⟩) 1 1] 31 (0, 0))) (hb1 : B2 ≤ b1) (hb2 : B2 ≤ b2) (hne : b1 ≠ b2) : Ls w B2 (.slice (some ⟨b2, 0, none⟩) 1 1) [.slice (some ⟨b1, 0, none⟩) 1 1] [[x]] := by
  refine ⟨⟨rfl, Or.inr ⟨b2, 1, _, rfl, hb2, h2, Nat.le_refl _, by decide, rfl, rfl⟩⟩, rfl, fun i u c hu hc => ?_⟩
  cases i with
  | succ i => simp at hu
  | zero =>
    simp at hu hc
    subst hu
    subst hc
    exact ⟨⟨rfl, Or.inr ⟨b1, 1, _, rfl, hb1, h1, Nat.le_refl _, by decide, rfl, rfl⟩⟩, fun q hq e => by
      have e1 : b1 = q := by injection hq
      have e2 : b2 = q := by injection e
      omega⟩
theorem ok4 : ∀ c ∈ ([[-3, 1], [-3, 2]] ++ [[3]] : List (List Int)), okC c ∧ c.length ≤ 1000 := by unfold okC; decide
theorem can4 : canF 3 ([[-3, 1], [-3, 2]] ++ [[3]]) = true := by decide
/-- How far 'Can(append(x.all, []int{x.roots[0]}), 3)' has come: 28, 29 build, 30 appends, 31 calls. -/
structure KS (x0 w0 : World) (B : Nat) (va : Value) (g : Nat → Nat) (L : Nat → Bool) (x : World) : Prop where
  kp : ∀ b, b < x0.heap.size → va.ownBlock ≠ some b → x.heap[b]? = x0.heap[b]?
  lo : L 30 = false → Below x0.heap.size x0 x
  a : L 28 = true → L 30 = false → x.heap[g 28]? = some (.cells #[.int .i64 3] 3 (0, 0)) ∧ x0.heap.size ≤ g 28
  b : L 29 = true → L 30 = false → x.heap[g 29]? = some (.cells #[.slice (some ⟨g 28, 0, none⟩) 1 1] 31 (0, 0)) ∧ g 28 < g 29
  c : L 30 = true → L 31 = false → ∃ us, Ls x B (dec 3 (g 30)) us ([[-3, 1], [-3, 2]] ++ [[3]])
  d : L 30 = true → Below w0.heap.size w0 x
  e1 : L 29 = true → L 28 = true
  e2 : L 30 = true → L 29 = true
  e3 : L 31 = true → L 30 = true
  sz : x0.heap.size ≤ x.heap.size
section
variable {x0 w0 : World} {B : Nat} {va : Value} {g : Nat → Nat} {L : Nat → Bool} {x y : World} {i : Nat}
theorem KS.start (h0 : x.heap = x0.heap) (h1 : x.os = x0.os) (h2 : x.tape = x0.tape) (h3 : x.output = x0.output) : KS x0 w0 B va g (fun _ => false) x :=
  ⟨(fun b _ _ => by rw [h0]), (fun _ => ⟨h1, h2, h3, by rw [h0]; exact Nat.le_refl _, fun b _ => by rw [h0]⟩), (fun e => by cases e), (fun e => by cases e), (fun e => by cases e), (fun e => by cases e), (fun e => by cases e), (fun e => by cases e), (fun e => by cases e), by rw [h0]; exact Nat.le_refl _⟩
theorem KS.go (h : KS x0 w0 B va g L x) (hi : (i != 28 && i != 29 && i != 30 && i != 31) = true) : KS x0 w0 B va g (updB L i) x := by
  simp only [Bool.and_eq_true, bne_iff_ne, ne_eq] at hi
  have u28 := updB_ne (L := L) (i := i) (k := 28) (by omega)
  have u29 := updB_ne (L := L) (i := i) (k := 29) (by omega)
  have u30 := updB_ne (L := L) (i := i) (k := 30) (by omega)
  have u31 := updB_ne (L := L) (i := i) (k := 31) (by omega)
  exact ⟨h.kp, by rw [u30]; exact h.lo, by rw [u28, u30]; exact h.a, by rw [u29, u30]; exact h.b, by rw [u30, u31]; exact h.c, by rw [u30]; exact h.d, by rw [u28, u29]; exact h.e1, by rw [u29, u30]; exact h.e2, by rw [u30, u31]; exact h.e3, h.sz⟩
theorem KS.b28 (h : KS x0 w0 B va g L x) (hLi : L 28 = false) : KS x0 w0 B va (updG g 28 x.heap.size) (updB L 28) (x.alloc (.cells #[.int .i64 3] 3 (0, 0))) := by
  have h29 : L 29 = false := off_of h.e1 hLi
  have h30 : L 30 = false := off_of h.e2 h29
  have h31 : L 31 = false := off_of h.e3 h30
  have hlo := h.lo h30
  have hs := hlo.size
  have hb : Below x0.heap.size x0 (x.alloc (.cells #[.int .i64 3] 3 (0, 0))) := hlo.trans (Below.mono (by go_grown : Below x.heap.size x _) hs)
  exact ⟨fun b hb' _ => hb.block b hb', fun _ => hb, fun _ _ => by rw [updG_eq]; exact ⟨heap_alloc_new x _, hs⟩, (fun e => by rw [show updB L 28 29 = L 29 from rfl, h29] at e; cases e), (fun e => by rw [show updB L 28 30 = L 30 from rfl, h30] at e; cases e), (fun e => by rw [show updB L 28 30 = L 30 from rfl, h30] at e; cases e), (fun e => by rw [show updB L 28 29 = L 29 from rfl, h29] at e; cases e), (fun e => by rw [show updB L 28 30 = L 30 from rfl, h30] at e; cases e), (fun e => by rw [show updB L 28 31 = L 31 from rfl, h31] at e; cases e), hb.size⟩
theorem KS.b29 (h : KS x0 w0 B va g L x) (hLi : L 29 = false) (h28 : L 28 = true) : KS x0 w0 B va (updG g 29 x.heap.size) (updB L 29) (x.alloc (.cells #[.slice (some ⟨g 28, 0, none⟩) 1 1] 31 (0, 0))) := by
  have h30 : L 30 = false := off_of h.e2 hLi
  have h31 : L 31 = false := off_of h.e3 h30
  have hlo := h.lo h30
  have hs := hlo.size
  obtain ⟨a1, a2⟩ := h.a h28 h30
  have hal : g 28 < x.heap.size := (Array.getElem?_eq_some_iff.1 a1).1
  have hb : Below x0.heap.size x0 (x.alloc (.cells #[.slice (some ⟨g 28, 0, none⟩) 1 1] 31 (0, 0))) := hlo.trans (Below.mono (by go_grown : Below x.heap.size x _) hs)
  exact ⟨fun b hb' _ => hb.block b hb', fun _ => hb, fun _ _ => ⟨(heap_alloc_old x _ hal).trans a1, a2⟩, fun _ _ => by rw [updG_eq]; exact ⟨heap_alloc_new x _, hal⟩, (fun e => by rw [show updB L 29 30 = L 30 from rfl, h30] at e; cases e), (fun e => by rw [show updB L 29 30 = L 30 from rfl, h30] at e; cases e), fun _ => h28, (fun e => by rw [show updB L 29 30 = L 30 from rfl, h30] at e; cases e), (fun e => by rw [show updB L 29 31 = L 31 from rfl, h31] at e; cases e), hb.size⟩
theorem KS.app {X : Nat} {us : List Value} {cx : Array Value} {TR ty : TypeId} (h : KS x0 w0 B va g L x) (hLi : L 30 = false) (h29 : L 29 = true) (hA : Ls x0 B va us [[-3, 1], [-3, 2]]) (hB : w0.heap.size + 1 ≤ x0.heap.size) (hB0 : B = w0.heap.size + 1) (hb0 : Below w0.heap.size w0 x0) (hX : x0.heap[X]? = some (.cells cx TR (0, 0))) (hXv : va.ownBlock ≠ some X) :
    ∃ p y, (Builtin.append_ #[30, 30] ty #[va, .slice (some ⟨g 29, 0, none⟩) 1 1]).run Try.prog x = .ok (dec 3 p) y ∧ KS x0 w0 B va (updG g 30 p) (updB L 30) y := by
  have h31 : L 31 = false := off_of h.e3 hLi
  have hlo := h.lo hLi
  obtain ⟨a1, a2⟩ := h.a (h.e1 h29) hLi
  obtain ⟨b1, b2⟩ := h.b h29 hLi
  obtain ⟨p, y, hap, hAP⟩ := AP.of (ty := ty) hlo hA (by omega) (ls_one a1 b1 a2 (by omega) (by omega)) (by decide) hX hXv
  obtain ⟨us2, w2, q1, q2, -, q4, -⟩ := hAP.ex
  refine ⟨p, y, hap, fun b hb hn => ?_, (fun e => by rw [updB_eq] at e; cases e), (fun _ e => by rw [updB_eq] at e; cases e), (fun _ e => by rw [updB_eq] at e; cases e), fun _ _ => ⟨_, by rw [updG_eq]; exact q1⟩, fun _ => ?_, h.e1, fun _ => h29, (fun e => by rw [show updB L 30 31 = L 31 from rfl, h31] at e; cases e), by have := q4.size; have := q2.size; omega⟩
  · rw [q2.block b (by have := q4.size; omega) (fun e => hn e.symm)]
    exact q4.block b hb
  · have q5 := q4.size
    refine ⟨q2.os.trans (q4.os.trans hb0.os), q2.tape.trans (q4.tape.trans hb0.tape), q2.output.trans (q4.output.trans hb0.output), by have := q2.size; omega, fun b hb => ?_⟩
    rw [q2.block b (by omega) (fun e => by have := (hA.row.lt b e.symm).1; omega), q4.block b (by omega)]
    exact hb0.block b hb
theorem KS.can (h : KS x0 w0 B va g L x) (h30 : L 30 = true) (hb : Below x.heap.size x y) (hs : x0.heap.size ≤ x.heap.size) : KS x0 w0 B va g (updB L 31) y := by
  have hd := h.d h30
  refine ⟨fun b hb' hn => (hb.block b (by omega)).trans (h.kp b hb' hn), (fun e => by rw [show updB L 31 30 = L 30 from rfl, h30] at e; cases e), (fun _ e => by rw [show updB L 31 30 = L 30 from rfl, h30] at e; cases e), (fun _ e => by rw [show updB L 31 30 = L 30 from rfl, h30] at e; cases e), (fun _ e => by rw [updB_eq] at e; cases e), fun _ => hd.trans (hb.mono hd.size), h.e1, h.e2, fun _ => h30, by have := hb.size; omega⟩
end
set_option maxRecDepth 20000 in
set_option maxHeartbeats 1600000 in
theorem known_any (w : World) : Calls Try.prog 6 #[] w fun ev w' => ev = .returned (.bool true) ∧ Below w.heap.size w w' := by
  have HPL : Hid (∀ (wx : World) (r : Nat), r < wx.heap.size → Ln wx r 0 k4L → Calls Try.prog 7 #[.slice (some ⟨r, 0, none⟩) 4 4, .int .i64 1] wx fun ev w' => ∃ X s, ev = .returned (.pointer (some ⟨X, 0, none⟩)) ∧ PL wx w' X 1 k4L s) := fun wx r hr hL => play_any wx (l := k4L) (Or.inr ⟨r, 0, rfl, hr, hL⟩) (by decide) (by decide) (by decide)
  go_enter Try.func6, Try.ntmps6
  go_wp2_with fail
  refine Calls.mono (HPL.out _ _ (by simp) ?_) ?_
  · intro j s hs t u hu
    have hj : j < 4 := (List.getElem?_eq_some_iff.1 hs).1
    rcases (show j = 0 ∨ j = 1 ∨ j = 2 ∨ j = 3 by omega) with rfl | rfl | rfl | rfl <;>
    · simp [k4L] at hs
      subst hs
      have ht : t < 3 := (List.getElem?_eq_some_iff.1 hu).1
      rcases (show t = 0 ∨ t = 1 ∨ t = 2 by omega) with rfl | rfl | rfl <;>
      · simp [Tp.cs] at hu
        subst hu
        exact cell_of (heap_alloc_new w _) _ rfl
  rintro ev w2 ⟨X, s, rfl, g, e, mv, mp, f, ⟨F, col, va, vl, vr, us, hx⟩, hP, -, -, hpl, hb⟩
  obtain ⟨hk4, hv4, hV4, hC4, hR4⟩ := play4 hpl
  obtain ⟨ks, vars, V, T, C, Lt, Rs⟩ := s
  dsimp only at hk4 hv4 hV4 hC4 hR4
  subst hk4 hv4 hV4 hC4 hR4
  have hb2 : Below w.heap.size w w2 := Below.trans (by go_grown) (hb.mono (by simp))
  have c0 : w2.cell? ⟨X, 0, none⟩ = some (.pointer (some ⟨g, 0, none⟩)) := cell_of hx.hd 0 rfl
  have c1 : w2.cell? ⟨X, 1, none⟩ = some (.pointer (some ⟨e, 0, none⟩)) := cell_of hx.hd 1 rfl
  have c2 : w2.cell? ⟨X, 2, none⟩ = some va := cell_of hx.hd 2 rfl
  have c4 : w2.cell? ⟨X, 4, none⟩ = some vr := cell_of hx.hd 4 rfl
  have c5 : w2.cell? ⟨X, 5, none⟩ = some (.bool true) := cell_of hx.hd 5 rfl
  have hXl := hx.lt
  have HXH : Hid _ := hx.hd
  have HCX : Hid ((va.ownBlock) ≠ some X) := fun h => by have := hx.ca X h; have := hx.cX.1; omega
  have HCE : Hid (∀ b, b = e ∨ b = mv ∨ b = mp → b < w2.heap.size ∧ va.ownBlock ≠ some b) := fun b hb => by
    have q1 := hx.ce.1
    have q2 := hx.cv.1
    have q3 := hx.cp.1
    rcases hb with rfl | rfl | rfl
    · exact ⟨hx.en.lt, fun h => by have := hx.ca _ h; omega⟩
    · exact ⟨hx.en.vs.lt, fun h => by have := hx.ca _ h; omega⟩
    · exact ⟨hx.en.ps.lt, fun h => by have := hx.ca _ h; omega⟩
  have HCV : Hid (∀ k, vr.ownBlock = some k → va.ownBlock ≠ some k) := fun k hk h => by have := hx.ca k h; have := hx.cr k hk; omega
  have HE : Hid (En w2 e g 3 mv mp V4 (polF T)) := hx.en
  have HG : Hid (Gr w2 F g 60 K4) := hx.gr
  have HL : Hid (Ls w2 (w.heap.size + 1) va us [[-3, 1], [-3, 2]]) := by have := hx.al; unfold Hid; simpa using this
  have HRO : Hid (Is' w2 (w.heap.size + 1) vr [3]) := by have := hx.ro; unfold Hid; simpa using this
  obtain ⟨aa, ca, ea, -⟩ := HL.out.sl
  have ea' : va = .slice aa 2 ca := ea
  obtain ⟨r, cr, er, hrb, -, hrL⟩ := HRO.out.li (by simp)
  have er' : vr = .slice (some ⟨r, 0, none⟩) 1 cr := er
  have cr0 : w2.cell? ⟨r, 0, none⟩ = some (.int .i64 3) := hrL 0 (by decide)
  subst ea' er'
  have HCR : Hid ((Value.slice aa 2 ca).ownBlock ≠ some r) := HCV.out r rfl
  have HNO : Hid (Calls Try.prog 16 #[.pointer (some ⟨g, 0, none⟩)] w2 fun e w' => e = .returned (.int .i64 3) ∧ w' = w2) := nodes_any HG.out
  have HOF : Hid (Calls Try.prog 20 #[.pointer (some ⟨e, 0, none⟩), .int .i64 1] w2 fun ev w' => ev = .returned (.tuple #[.int .i64 1, .bool true]) ∧ w' = w2) := of_any HE.out (n := 1) (by unfold w64; omega)
  have HRN : Hid _ := root_no (l := 99) HE.out HG.out (by decide) (by decide)
  have hwb := hb2.size
  have hwb2 : w.heap.size + 1 ≤ w2.heap.size := by have := hb.size; simpa using this
  clear hx hP hpl ea er hrL hb hrb HPL
  go_wp2_with fail
  refine Calls.mono HNO.out ?_
  rintro ev wz ⟨rfl, hz⟩
  rw [hz]
  clear hz wz
  go_wp2_with fail
  refine Calls.mono HOF.out ?_
  rintro ev wz ⟨rfl, hz⟩
  rw [hz]
  clear hz wz
  go_wp2_with fail
  refine Calls.mono HRN.out ?_
  rintro ev w3 ⟨rfl, hb3⟩
  have d1 := keep_cell hb3 c1
  have d2 := keep_cell hb3 c2
  have d4 := keep_cell hb3 c4
  have dr := keep_cell hb3 cr0
  have HL3 : Hid _ := HL.out.below hb3
  have HVR : Hid (∀ wx : World, (∀ b, b = e ∨ b = mv ∨ b = mp → wx.heap[b]? = w3.heap[b]?) → Calls Try.prog 9 #[.pointer (some ⟨e, 0, none⟩)] wx fun ev w' => ev = .returned (.int .i64 3) ∧ w' = wx) := fun wx hwx => vars_any ((HE.out.below hb3).kept hwx)
  have hb03 : Below w.heap.size w w3 := hb2.trans (hb3.mono hwb)
  have hX3 : X < w3.heap.size := by have := hb3.size; omega
  have HEB : Hid (∀ b, b = e ∨ b = mv ∨ b = mp → b < w3.heap.size ∧ (Value.slice aa 2 ca).ownBlock ≠ some b) := fun b hb => ⟨by have := (HCE.out b hb).1; have := hb3.size; omega, (HCE.out b hb).2⟩
  have hr3 : r < w3.heap.size := World.block_lt_of_cell? _ _ dr
  have hw3 : w.heap.size + 1 ≤ w3.heap.size := by have := hb3.size; omega
  have hX3h : ∃ cx TR, w3.heap[X]? = some (.cells cx TR (0, 0)) := ⟨_, _, (hb3.block X hXl).trans HXH.out⟩
  obtain ⟨cx3, TR3, hX3h⟩ := hX3h
  have HX3 : Hid _ := hX3h
  clear c0 c1 c2 c4 c5 cr0 HNO HOF HRN HE HG HL HRO hb3 hXl hwb2 hX3h HXH
  go_wp2_with fail
  refine wp_named fun a0 ha0 => ?_
  have o1 := old_at ha0 (t := 1) rfl
  have o2 := old_at ha0 (t := 2) rfl
  have o3 := old_at ha0 (t := 3) rfl
  have o6 := old_at ha0 (t := 6) rfl
  refine wp_region_lin (S := KS w3 w (w.heap.size + 1) (.slice aa 2 ca)) [28, 29, 30] (fun _ => 0) (by kernel_rfl) (by kernel_rfl) (by rw [← ha0]; kernel_rfl) (KS.start (x := w3.drew) rfl rfl rfl rfl) ?_
  refine' LinAll.cons _ ?_ ?_ ?_
  rotate_left 1
  · intro gg L a x hLi haft hS hK
    have t3 := (hK.old 3 (by kernel_rfl)).trans o3
    (try dsimp only at t3)
    refine go_in (wanted_all rfl) ?_
    intro K hk
    clear haft hK hLi
    go_simp
    exact hk.out gg x (fun _ _ => rfl) (hS.go rfl)
  · intro i hi; exact Or.inl (fun _ _ _ => rfl)
  refine' LinAll.cons _ ?_ ?_ ?_
  rotate_left 1
  · intro gg L a x hLi haft hS hK
    have t73 := hK.new 0 0 _ 73 _ rfl rfl rfl (by kernel_rfl) (waits haft 0 (by kernel_rfl))
    (try dsimp only at t73)
    refine go_in (wanted_all rfl) ?_
    intro K hk
    clear haft hK hLi
    go_simp
    exact hk.out gg x (fun _ _ => rfl) (hS.go rfl)
  · intro i hi; exact Or.inl (fun _ _ _ => rfl)
  refine' LinAll.cons _ ?_ ?_ ?_
  rotate_left 1
  · intro gg L a x hLi haft hS hK
    have t2 := (hK.old 2 (by kernel_rfl)).trans o2
    have tg := hK.new 1 0 _ 74 _ rfl rfl rfl (by kernel_rfl) (waits haft 1 (by kernel_rfl))
    (try dsimp only at t2)
    refine go_in (wanted_at rfl rfl rfl tg rfl) ?_
    intro K hk
    clear haft hK tg hLi
    go_simp
    exact hk.out gg x (fun _ _ => rfl) (hS.go rfl)
  · intro i hi; exact Or.inl (fun _ _ _ => rfl)
  refine' LinAll.cons _ ?_ ?_ ?_
  rotate_left 1
  · intro gg L a x hLi haft hS hK
    have t75 := hK.new 2 0 _ 75 _ rfl rfl rfl (by kernel_rfl) (waits haft 2 (by kernel_rfl))
    have tg := hK.new 1 1 _ 74 _ rfl rfl rfl (by kernel_rfl) (waits haft 1 (by kernel_rfl))
    (try dsimp only at t75)
    refine go_in (wanted_at rfl rfl rfl tg rfl) ?_
    intro K hk
    clear haft hK tg hLi
    go_simp
    exact hk.out gg x (fun _ _ => rfl) (hS.go rfl)
  · intro i hi; exact Or.inl (fun _ _ _ => rfl)
  refine' LinAll.cons _ ?_ ?_ ?_
  rotate_left 1
  · intro gg L a x hLi haft hS hK
    have t74 := hK.new 1 2 _ 74 _ rfl rfl rfl (by kernel_rfl) (waits haft 1 (by kernel_rfl))
    have t76 := hK.new 3 0 _ 76 _ rfl rfl rfl (by kernel_rfl) (waits haft 3 (by kernel_rfl))
    (try dsimp only at t74 t76)
    refine go_in (wanted_all rfl) ?_
    intro K hk
    clear haft hK hLi
    go_simp
    exact hk.out gg x (fun _ _ => rfl) (hS.go rfl)
  · intro i hi; exact Or.inl (fun _ _ _ => rfl)
  refine' LinAll.cons _ ?_ ?_ ?_
  rotate_left 1
  · intro gg L a x hLi haft hS hK
    have t77 := hK.new 4 0 _ 77 _ rfl rfl rfl (by kernel_rfl) (waits haft 4 (by kernel_rfl))
    (try dsimp only at t77)
    refine go_in (wanted_all rfl) ?_
    intro K hk
    clear haft hK hLi
    go_simp
    exact hk.out gg x (fun _ _ => rfl) (hS.go rfl)
  · intro i hi; exact Or.inl (fun _ _ _ => rfl)
  refine' LinAll.cons _ ?_ ?_ ?_
  rotate_left 1
  · intro gg L a x hLi haft hS hK
    have t6 := (hK.old 6 (by kernel_rfl)).trans o6
    have tg := hK.new 5 0 _ 78 _ rfl rfl rfl (by kernel_rfl) (waits haft 5 (by kernel_rfl))
    (try dsimp only at t6)
    refine go_in (wanted_at rfl rfl rfl tg rfl) ?_
    intro K hk
    clear haft hK tg hLi
    go_simp
    exact hk.out gg x (fun _ _ => rfl) (hS.go rfl)
  · intro i hi; exact Or.inl (fun _ _ _ => rfl)
  refine' LinAll.cons _ ?_ ?_ ?_
  rotate_left 1
  · intro gg L a x hLi haft hS hK
    have t79 := hK.new 6 0 _ 79 _ rfl rfl rfl (by kernel_rfl) (waits haft 6 (by kernel_rfl))
    have tg := hK.new 5 1 _ 78 _ rfl rfl rfl (by kernel_rfl) (waits haft 5 (by kernel_rfl))
    (try dsimp only at t79)
    refine go_in (wanted_at rfl rfl rfl tg rfl) ?_
    intro K hk
    clear haft hK tg hLi
    go_simp
    exact hk.out gg x (fun _ _ => rfl) (hS.go rfl)
  · intro i hi; exact Or.inl (fun _ _ _ => rfl)
  refine' LinAll.cons _ ?_ ?_ ?_
  rotate_left 1
  · intro gg L a x hLi haft hS hK
    have t78 := hK.new 5 2 _ 78 _ rfl rfl rfl (by kernel_rfl) (waits haft 5 (by kernel_rfl))
    have t80 := hK.new 7 0 _ 80 _ rfl rfl rfl (by kernel_rfl) (waits haft 7 (by kernel_rfl))
    (try dsimp only at t78 t80)
    refine go_in (wanted_all rfl) ?_
    intro K hk
    clear haft hK hLi
    go_simp
    exact hk.out gg x (fun _ _ => rfl) (hS.go rfl)
  · intro i hi; exact Or.inl (fun _ _ _ => rfl)
  refine' LinAll.cons _ ?_ ?_ ?_
  rotate_left 1
  · intro gg L a x hLi haft hS hK
    have t81 := hK.new 8 0 _ 81 _ rfl rfl rfl (by kernel_rfl) (waits haft 8 (by kernel_rfl))
    (try dsimp only at t81)
    refine go_in (wanted_all rfl) ?_
    intro K hk
    clear haft hK hLi
    go_simp
    exact hk.out gg x (fun _ _ => rfl) (hS.go rfl)
  · intro i hi; exact Or.inl (fun _ _ _ => rfl)
  refine' LinAll.cons _ ?_ ?_ ?_
  rotate_left 1
  · intro gg L a x hLi haft hS hK
    have t1 := (hK.old 1 (by kernel_rfl)).trans o1
    have tg := hK.new 9 0 _ 82 _ rfl rfl rfl (by kernel_rfl) (waits haft 9 (by kernel_rfl))
    (try dsimp only at t1)
    refine go_in (wanted_at rfl rfl rfl tg rfl) ?_
    intro K hk
    clear haft hK tg hLi
    go_simp
    exact hk.out gg x (fun _ _ => rfl) (hS.go rfl)
  · intro i hi; exact Or.inl (fun _ _ _ => rfl)
  refine' LinAll.cons _ ?_ ?_ ?_
  rotate_left 1
  · intro gg L a x hLi haft hS hK
    have t83 := hK.new 10 0 _ 83 _ rfl rfl rfl (by kernel_rfl) (waits haft 10 (by kernel_rfl))
    have tg := hK.new 9 1 _ 82 _ rfl rfl rfl (by kernel_rfl) (waits haft 9 (by kernel_rfl))
    (try dsimp only at t83)
    refine go_in (wanted_at rfl rfl rfl tg rfl) ?_
    intro K hk
    clear haft hK tg hLi
    go_simp
    exact hk.out gg x (fun _ _ => rfl) (hS.go rfl)
  · intro i hi; exact Or.inl (fun _ _ _ => rfl)
  refine' LinAll.cons _ ?_ ?_ ?_
  rotate_left 1
  · intro gg L a x hLi haft hS hK
    have t84 := hK.new 11 0 _ 84 _ rfl rfl rfl (by kernel_rfl) (waits haft 11 (by kernel_rfl))
    have tg := hK.new 9 2 _ 82 _ rfl rfl rfl (by kernel_rfl) (waits haft 9 (by kernel_rfl))
    (try dsimp only at t84)
    refine go_in (wanted_at rfl rfl rfl tg rfl) ?_
    intro K hk
    clear haft hK tg hLi
    go_simp
    exact hk.out gg x (fun _ _ => rfl) (hS.go rfl)
  · intro i hi; exact Or.inl (fun _ _ _ => rfl)
  refine' LinAll.cons _ ?_ ?_ ?_
  rotate_left 1
  · intro gg L a x hLi haft hS hK
    have t85 := hK.new 12 0 _ 85 _ rfl rfl rfl (by kernel_rfl) (waits haft 12 (by kernel_rfl))
    have tg := hK.new 9 3 _ 82 _ rfl rfl rfl (by kernel_rfl) (waits haft 9 (by kernel_rfl))
    (try dsimp only at t85)
    have cX : x.cell? ⟨X, 1, none⟩ = some (.pointer (some ⟨e, 0, none⟩)) := (World.cell?_of_block (a := ⟨X, 1, none⟩) (hS.kp X hX3 HCX.out)).trans d1
    refine go_in (wanted_at rfl rfl rfl tg rfl) ?_
    intro K hk
    clear haft hK tg hLi
    go_simp
    exact hk.out gg x (fun _ _ => rfl) (hS.go rfl)
  · intro i hi; exact Or.inl (fun _ _ _ => rfl)
  refine' LinAll.cons _ ?_ ?_ ?_
  rotate_left 1
  · intro gg L a x hLi haft hS hK
    have t86 := hK.new 13 0 _ 86 _ rfl rfl rfl (by kernel_rfl) (waits haft 13 (by kernel_rfl))
    have tg := hK.new 9 4 _ 82 _ rfl rfl rfl (by kernel_rfl) (waits haft 9 (by kernel_rfl))
    (try dsimp only at t86)
    refine go_in (wanted_at rfl rfl rfl tg rfl) ?_
    intro K hk
    have HVX : Hid _ := HVR.out x (fun b hb => hS.kp b (HEB.out b hb).1 (HEB.out b hb).2)
    clear haft hK tg hLi
    go_simp
    refine Calls.mono HVX.out ?_
    rintro ev y ⟨rfl, rfl⟩
    exact hk.out gg y (fun _ _ => rfl) (hS.go rfl)
  · intro i hi; exact Or.inl (fun _ _ _ => rfl)
  refine' LinAll.cons _ ?_ ?_ ?_
  rotate_left 1
  · intro gg L a x hLi haft hS hK
    have t87 := hK.new 14 0 _ 87 _ rfl rfl rfl (by kernel_rfl) (waits haft 14 (by kernel_rfl))
    have tg := hK.new 9 5 _ 82 _ rfl rfl rfl (by kernel_rfl) (waits haft 9 (by kernel_rfl))
    (try dsimp only at t87)
    refine go_in (wanted_at rfl rfl rfl tg rfl) ?_
    intro K hk
    clear haft hK tg hLi
    go_simp
    exact hk.out gg x (fun _ _ => rfl) (hS.go rfl)
  · intro i hi; exact Or.inl (fun _ _ _ => rfl)
  refine' LinAll.cons _ ?_ ?_ ?_
  rotate_left 1
  · intro gg L a x hLi haft hS hK
    have t82 := hK.new 9 6 _ 82 _ rfl rfl rfl (by kernel_rfl) (waits haft 9 (by kernel_rfl))
    have t88 := hK.new 15 0 _ 88 _ rfl rfl rfl (by kernel_rfl) (waits haft 15 (by kernel_rfl))
    (try dsimp only at t82 t88)
    refine go_in (wanted_all rfl) ?_
    intro K hk
    clear haft hK hLi
    go_simp
    exact hk.out gg x (fun _ _ => rfl) (hS.go rfl)
  · intro i hi; exact Or.inl (fun _ _ _ => rfl)
  refine' LinAll.cons _ ?_ ?_ ?_
  rotate_left 1
  · intro gg L a x hLi haft hS hK
    have t89 := hK.new 16 0 _ 89 _ rfl rfl rfl (by kernel_rfl) (waits haft 16 (by kernel_rfl))
    (try dsimp only at t89)
    refine go_in (wanted_all rfl) ?_
    intro K hk
    clear haft hK hLi
    go_simp
    exact hk.out gg x (fun _ _ => rfl) (hS.go rfl)
  · intro i hi; exact Or.inl (fun _ _ _ => rfl)
  refine' LinAll.cons _ ?_ ?_ ?_
  rotate_left 1
  · intro gg L a x hLi haft hS hK
    have t1 := (hK.old 1 (by kernel_rfl)).trans o1
    have tg := hK.new 17 0 _ 90 _ rfl rfl rfl (by kernel_rfl) (waits haft 17 (by kernel_rfl))
    (try dsimp only at t1)
    refine go_in (wanted_at rfl rfl rfl tg rfl) ?_
    intro K hk
    clear haft hK tg hLi
    go_simp
    exact hk.out gg x (fun _ _ => rfl) (hS.go rfl)
  · intro i hi; exact Or.inl (fun _ _ _ => rfl)
  refine' LinAll.cons _ ?_ ?_ ?_
  rotate_left 1
  · intro gg L a x hLi haft hS hK
    have t91 := hK.new 18 0 _ 91 _ rfl rfl rfl (by kernel_rfl) (waits haft 18 (by kernel_rfl))
    have tg := hK.new 17 1 _ 90 _ rfl rfl rfl (by kernel_rfl) (waits haft 17 (by kernel_rfl))
    (try dsimp only at t91)
    refine go_in (wanted_at rfl rfl rfl tg rfl) ?_
    intro K hk
    clear haft hK tg hLi
    go_simp
    exact hk.out gg x (fun _ _ => rfl) (hS.go rfl)
  · intro i hi; exact Or.inl (fun _ _ _ => rfl)
  refine' LinAll.cons _ ?_ ?_ ?_
  rotate_left 1
  · intro gg L a x hLi haft hS hK
    have t92 := hK.new 19 0 _ 92 _ rfl rfl rfl (by kernel_rfl) (waits haft 19 (by kernel_rfl))
    have tg := hK.new 17 2 _ 90 _ rfl rfl rfl (by kernel_rfl) (waits haft 17 (by kernel_rfl))
    (try dsimp only at t92)
    refine go_in (wanted_at rfl rfl rfl tg rfl) ?_
    intro K hk
    clear haft hK tg hLi
    go_simp
    exact hk.out gg x (fun _ _ => rfl) (hS.go rfl)
  · intro i hi; exact Or.inl (fun _ _ _ => rfl)
  refine' LinAll.cons _ ?_ ?_ ?_
  rotate_left 1
  · intro gg L a x hLi haft hS hK
    have t93 := hK.new 20 0 _ 93 _ rfl rfl rfl (by kernel_rfl) (waits haft 20 (by kernel_rfl))
    have tg := hK.new 17 3 _ 90 _ rfl rfl rfl (by kernel_rfl) (waits haft 17 (by kernel_rfl))
    (try dsimp only at t93)
    have cX : x.cell? ⟨X, 2, none⟩ = some (.slice aa 2 ca) := (World.cell?_of_block (a := ⟨X, 2, none⟩) (hS.kp X hX3 HCX.out)).trans d2
    refine go_in (wanted_at rfl rfl rfl tg rfl) ?_
    intro K hk
    clear haft hK tg hLi
    go_simp
    exact hk.out gg x (fun _ _ => rfl) (hS.go rfl)
  · intro i hi; exact Or.inl (fun _ _ _ => rfl)
  refine' LinAll.cons _ ?_ ?_ ?_
  rotate_left 1
  · intro gg L a x hLi haft hS hK
    have t1 := (hK.old 1 (by kernel_rfl)).trans o1
    have tg := hK.new 17 4 _ 90 _ rfl rfl rfl (by kernel_rfl) (waits haft 17 (by kernel_rfl))
    (try dsimp only at t1)
    refine go_in (wanted_at rfl rfl rfl tg rfl) ?_
    intro K hk
    clear haft hK tg hLi
    go_simp
    exact hk.out gg x (fun _ _ => rfl) (hS.go rfl)
  · intro i hi; exact Or.inl (fun _ _ _ => rfl)
  refine' LinAll.cons _ ?_ ?_ ?_
  rotate_left 1
  · intro gg L a x hLi haft hS hK
    have t95 := hK.new 22 0 _ 95 _ rfl rfl rfl (by kernel_rfl) (waits haft 22 (by kernel_rfl))
    have tg := hK.new 17 5 _ 90 _ rfl rfl rfl (by kernel_rfl) (waits haft 17 (by kernel_rfl))
    (try dsimp only at t95)
    refine go_in (wanted_at rfl rfl rfl tg rfl) ?_
    intro K hk
    clear haft hK tg hLi
    go_simp
    exact hk.out gg x (fun _ _ => rfl) (hS.go rfl)
  · intro i hi; exact Or.inl (fun _ _ _ => rfl)
  refine' LinAll.cons _ ?_ ?_ ?_
  rotate_left 1
  · intro gg L a x hLi haft hS hK
    have t96 := hK.new 23 0 _ 96 _ rfl rfl rfl (by kernel_rfl) (waits haft 23 (by kernel_rfl))
    have tg := hK.new 17 6 _ 90 _ rfl rfl rfl (by kernel_rfl) (waits haft 17 (by kernel_rfl))
    (try dsimp only at t96)
    refine go_in (wanted_at rfl rfl rfl tg rfl) ?_
    intro K hk
    clear haft hK tg hLi
    go_simp
    exact hk.out gg x (fun _ _ => rfl) (hS.go rfl)
  · intro i hi; exact Or.inl (fun _ _ _ => rfl)
  refine' LinAll.cons _ ?_ ?_ ?_
  rotate_left 1
  · intro gg L a x hLi haft hS hK
    have t97 := hK.new 24 0 _ 97 _ rfl rfl rfl (by kernel_rfl) (waits haft 24 (by kernel_rfl))
    have tg := hK.new 17 7 _ 90 _ rfl rfl rfl (by kernel_rfl) (waits haft 17 (by kernel_rfl))
    (try dsimp only at t97)
    have cX : x.cell? ⟨X, 4, none⟩ = some (.slice (some ⟨r, 0, none⟩) 1 cr) := (World.cell?_of_block (a := ⟨X, 4, none⟩) (hS.kp X hX3 HCX.out)).trans d4
    refine go_in (wanted_at rfl rfl rfl tg rfl) ?_
    intro K hk
    clear haft hK tg hLi
    go_simp
    exact hk.out gg x (fun _ _ => rfl) (hS.go rfl)
  · intro i hi; exact Or.inl (fun _ _ _ => rfl)
  refine' LinAll.cons _ ?_ ?_ ?_
  rotate_left 1
  · intro gg L a x hLi haft hS hK
    have t98 := hK.new 25 0 _ 98 _ rfl rfl rfl (by kernel_rfl) (waits haft 25 (by kernel_rfl))
    have tg := hK.new 17 8 _ 90 _ rfl rfl rfl (by kernel_rfl) (waits haft 17 (by kernel_rfl))
    (try dsimp only at t98)
    refine go_in (wanted_at rfl rfl rfl tg rfl) ?_
    intro K hk
    clear haft hK tg hLi
    go_simp
    exact hk.out gg x (fun _ _ => rfl) (hS.go rfl)
  · intro i hi; exact Or.inl (fun _ _ _ => rfl)
  refine' LinAll.cons _ ?_ ?_ ?_
  rotate_left 1
  · intro gg L a x hLi haft hS hK
    have t99 := hK.new 26 0 _ 99 _ rfl rfl rfl (by kernel_rfl) (waits haft 26 (by kernel_rfl))
    have tg := hK.new 17 9 _ 90 _ rfl rfl rfl (by kernel_rfl) (waits haft 17 (by kernel_rfl))
    (try dsimp only at t99)
    have cX : x.cell? ⟨r, 0, none⟩ = some (.int .i64 3) := (World.cell?_of_block (a := ⟨r, 0, none⟩) (hS.kp r hr3 HCR.out)).trans dr
    refine go_in (wanted_at rfl rfl rfl tg rfl) ?_
    intro K hk
    clear haft hK tg hLi
    go_simp
    exact hk.out gg x (fun _ _ => rfl) (hS.go rfl)
  · intro i hi; exact Or.inl (fun _ _ _ => rfl)
  refine LinAll.cons (fun gg => .slice (some ⟨gg 28, 0, none⟩) 1 1) ?_ ?_ ?_
  · intro gg L a x hLi haft hS hK
    have t100 := hK.new 27 0 _ 100 _ rfl rfl rfl (by kernel_rfl) (waits haft 27 (by kernel_rfl))
    have tg := hK.new 17 10 _ 90 _ rfl rfl rfl (by kernel_rfl) (waits haft 17 (by kernel_rfl))
    (try dsimp only at t100)
    refine go_in (wanted_at rfl rfl rfl tg rfl) ?_
    intro K hk
    clear haft hK tg
    go_simp
    have hq := hk.out (updG gg 28 x.heap.size) _ (updG_al (by rfl)) (hS.b28 hLi)
    dsimp only at hq
    rw [updG_eq] at hq
    exact hq
  · intro i hi
    simp only [List.mem_cons, List.not_mem_nil, or_false] at hi
    rcases hi with rfl | rfl | rfl
    · exact Or.inr (by kernel_rfl)
    · exact Or.inl (fun g g' h => by simp only [h 28 (by decide)])
    · exact Or.inl (fun g g' h => by simp only [h 28 (by decide)])
  refine LinAll.cons (fun gg => .slice (some ⟨gg 29, 0, none⟩) 1 1) ?_ ?_ ?_
  · intro gg L a x hLi haft hS hK
    have t101 := hK.new 28 0 _ 101 _ rfl rfl rfl (by kernel_rfl) (waits haft 28 (by kernel_rfl))
    have tg := hK.new 17 11 _ 90 _ rfl rfl rfl (by kernel_rfl) (waits haft 17 (by kernel_rfl))
    (try dsimp only at t101)
    refine go_in (wanted_at rfl rfl rfl tg rfl) ?_
    intro K hk
    have hL28 := waits haft 28 (by kernel_rfl)
    clear haft hK tg
    go_simp
    have hq := hk.out (updG gg 29 x.heap.size) _ (updG_al (by rfl)) (hS.b29 hLi hL28)
    dsimp only at hq
    rw [updG_eq] at hq
    exact hq
  · intro i hi
    simp only [List.mem_cons, List.not_mem_nil, or_false] at hi
    rcases hi with rfl | rfl | rfl
    · exact Or.inl (fun g g' h => by simp only [h 29 (by decide)])
    · exact Or.inr (by kernel_rfl)
    · exact Or.inl (fun g g' h => by simp only [h 29 (by decide)])
  refine LinAll.cons (fun gg => dec 3 (gg 30)) ?_ ?_ ?_
  · intro gg L a x hLi haft hS hK
    have t94 := hK.new 21 8 _ 94 _ rfl rfl rfl (by kernel_rfl) (waits haft 21 (by kernel_rfl))
    have t102 := hK.new 29 0 _ 102 _ rfl rfl rfl (by kernel_rfl) (waits haft 29 (by kernel_rfl))
    have tg := hK.new 17 12 _ 90 _ rfl rfl rfl (by kernel_rfl) (waits haft 17 (by kernel_rfl))
    (try dsimp only at t94 t102)
    refine go_in (wanted_at rfl rfl rfl tg rfl) ?_
    intro K hk
    have hL29 := waits haft 29 (by kernel_rfl)
    obtain ⟨p, y, hap, hny⟩ := hS.app hLi hL29 HL3.out hw3 rfl hb03 HX3.out HCX.out
    refine wp_app_eq _ (.tmp 94) (.tmp 102) 30 rfl _ _ _ y (eval_tmp t94) (eval_tmp t102) hap ?_
    have hq := hk.out (updG gg 30 p) y (updG_al (by rfl)) hny
    dsimp only at hq
    rw [updG_eq] at hq
    exact hq
  · intro i hi
    simp only [List.mem_cons, List.not_mem_nil, or_false] at hi
    rcases hi with rfl | rfl | rfl
    · exact Or.inl (fun g g' h => by simp only [h 30 (by decide)])
    · exact Or.inl (fun g g' h => by simp only [h 30 (by decide)])
    · exact Or.inr (by kernel_rfl)
  refine' LinAll.cons _ ?_ ?_ ?_
  rotate_left 1
  · intro gg L a x hLi haft hS hK
    have t103 := hK.new 30 0 _ 103 _ rfl rfl rfl (by kernel_rfl) (waits haft 30 (by kernel_rfl))
    have tg := hK.new 17 13 _ 90 _ rfl rfl rfl (by kernel_rfl) (waits haft 17 (by kernel_rfl))
    (try dsimp only at t103)
    refine go_in (wanted_at rfl rfl rfl tg rfl) ?_
    intro K hk
    have hL30 := waits haft 30 (by kernel_rfl)
    obtain ⟨us2, hl2⟩ := hS.c hL30 hLi
    have hsx : w3.heap.size ≤ x.heap.size := hS.sz
    have HCN : Hid _ := can_any (m := 3) hl2 ok4 (by decide) (by decide)
    rw [can4] at HCN
    obtain ⟨da, dc, hde⟩ := dec_sl 3 (gg 30)
    rw [hde] at HCN t103
    clear haft hK tg hl2 hde
    go_simp
    refine Calls.mono HCN.out ?_
    rintro ev y ⟨rfl, hby⟩
    exact hk.out gg y (fun _ _ => rfl) (hS.can hL30 hby hsx)
  · intro i hi; exact Or.inl (fun _ _ _ => rfl)
  refine' LinAll.cons _ ?_ ?_ ?_
  rotate_left 1
  · intro gg L a x hLi haft hS hK
    have t90 := hK.new 17 14 _ 90 _ rfl rfl rfl (by kernel_rfl) (waits haft 17 (by kernel_rfl))
    have t104 := hK.new 31 0 _ 104 _ rfl rfl rfl (by kernel_rfl) (waits haft 31 (by kernel_rfl))
    (try dsimp only at t90 t104)
    refine go_in (wanted_all rfl) ?_
    intro K hk
    clear haft hK hLi
    go_simp
    exact hk.out gg x (fun _ _ => rfl) (hS.go rfl)
  · intro i hi; exact Or.inl (fun _ _ _ => rfl)
  refine' LinAll.cons _ ?_ ?_ ?_
  rotate_left 1
  · intro gg L a x hLi haft hS hK
    have t105 := hK.new 32 0 _ 105 _ rfl rfl rfl (by kernel_rfl) (waits haft 32 (by kernel_rfl))
    (try dsimp only at t105)
    refine go_in (wanted_all rfl) ?_
    intro K hk
    clear haft hK hLi
    go_simp
    exact hk.out gg x (fun _ _ => rfl) (hS.go rfl)
  · intro i hi; exact Or.inl (fun _ _ _ => rfl)
  refine LinAll.nil fun gg x hS => ?_
  subst ha0
  simp only [Act.put, List.setIfInBounds_toArray, List.set_cons_zero, List.set_cons_succ]
  clear o1 o2 o3 o6
  have hbx := hS.d rfl
  go_wp2_with fail
  go_ret
  exact ⟨rfl, hbx⟩
end Go.Proofs.Ytajpnlmglkifcaa
