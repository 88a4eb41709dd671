import Derived.Test.YtcahhahbcijkiaaGreatMg22
import Derived.Test.YtcahhahbcijkiaaGreatMg10
namespace Go.Proofs.YtcahhahbcijkiaaGreat.Ag
set_option maxHeartbeats 12800000
set_option maxRecDepth 100000
open Go.RowKit
set_option linter.unusedSimpArgs false
set_option linter.unusedVariables false
theorem repeat_any {w : World} {b1 : Nat} {l : Int} (hc : w.cell? ⟨b1, 0, none⟩ = some (.int .i64 l)) {n : Nat} (hn : n ≤ 50000) :
  Calls Tryz.prog 175 #[.slice (some ⟨b1, 0, none⟩) 1 1, .int .i64 (n : Int)] w fun ev w' => ev = .returned (.slice (some ⟨w.heap.size, 0, none⟩) n n) ∧ w'.rowIs w.heap.size 3 n (fun _ => .int .i64 l) ∧ w.heap.size < w'.heap.size ∧ Below w.heap.size w w' := by
 have HM : Hid (∀ wx, Calls Tryz.prog 200 #[.int .u64 1, .int .u64 (n : Int)] wx fun ev w' => ev = .returned (.tuple #[.int .u64 0, .int .u64 (n : Int)]) ∧ w' = wx) := fun wx => mul_one hn wx
 have hmk : ∀ wx, (Instr.makeSlice 81 (.int .i64 (n : Int)) (.int .i64 (n : Int))).run Tryz.prog wx = .ok (.slice (some ⟨wx.heap.size, 0, none⟩) n n) (wx.alloc (.cells (madeCells #[.int .i64 0] n) 3)) := fun wx => run_make_row' (P := Tryz.prog) 81 3 (.int .i64 0) 8 underWord infoInt rfl .i64 .i64 n (by omega) (by omega) wx
 have HROW : Hid (World.rowIs (w.alloc (.cells (madeCells #[.int .i64 0] n) 3)) w.heap.size 3 n (fun _ => .int .i64 0)) := World.rowIs_made w (.int .i64 0) n 3
 have hn9 : (n : Int) ≤ 50000 := by omega
 have hbl := World.block_lt_of_cell? _ _ hc
 obtain ⟨w1, hw1⟩ : ∃ y, y = w.alloc (.cells (madeCells #[.int .i64 0] n) 3) := ⟨_, rfl⟩
 have HB1 : Hid (Below w.heap.size w w1) := by unfold Hid; rw [hw1]; go_grown
 have hs1 : w.heap.size < w1.heap.size := by rw [hw1]; simp
 by_cases h0 : n = 0
 ·subst h0
  have HC : Hid (∀ (ty : TypeId), (Builtin.copy_ #[81, 81] ty #[.slice (some ⟨w.heap.size, 0, none⟩) 0 0, .slice (some ⟨b1, 0, none⟩) 1 1]).run Tryz.prog w1 = .ok (goInt 0) w1) := fun ty => run_copy_none (P := Tryz.prog) w1 81 81 ty 3 _ _ 0 0 1 1 underWord size_int rfl
  have HR : Hid (w1.rowIs w.heap.size 3 0 (fun _ => .int .i64 l)) := by unfold Hid; rw [hw1]; exact World.rowIs.congr HROW.out (fun j hj => by omega)
  rw [hw1] at HC
  have hmk0 : ∀ wx, (Instr.makeSlice 81 (.int .i64 0) (.int .i64 0)).run Tryz.prog wx = .ok (.slice (some ⟨wx.heap.size, 0, none⟩) 0 0) (wx.alloc (.cells (madeCells #[.int .i64 0] 0) 3)) := hmk
  clear HROW hmk
  go_enter Tryz.func175, Tryz.ntmps175
  go_wp2_with fail
  refine (HM.out _).mono ?_
  rintro ev wz ⟨rfl, hz⟩
  rw [hz]
  clear hz wz
  have hcp := HC.out 3
  go_wp2_with fail
  rw [← hw1]
  go_loopw [8] (fun i wr => i = .int .i64 0 ∧ wr = w1) (fun i wr => 0)
  case atStart => exact ⟨rfl, rfl⟩
  case round =>
   obtain ⟨rfl, e⟩ := hrel
   subst e
   clear hw1 hcp HC
   go_wp2_with fail
   go_ret
   exact ⟨rfl, HR.out, hs1, HB1.out⟩
 ·have hr1 : w1.rowIs w.heap.size 3 n (fun _ => .int .i64 0) := by rw [hw1]; exact HROW.out
  have hc1 : w1.cell? ⟨b1, 0, none⟩ = some (.int .i64 l) := keep_cell HB1.out hc
  have HC : Hid (∀ (ty : TypeId), (Builtin.copy_ #[81, 81] ty #[.slice (some ⟨w.heap.size, 0, none⟩) n n, .slice (some ⟨b1, 0, none⟩) 1 1]).run Tryz.prog w1 = .ok (goInt 1) (w1.setCells w.heap.size 0 [.int .i64 l])) := fun ty => run_copy_cells (P := Tryz.prog) w1 81 81 ty 3 w.heap.size 0 n n ⟨b1, 0, none⟩ 1 1 [.int .i64 l] underWord size_int (by show 1 = min 1 n; omega) (fun j v hj => by
   cases j with
   | succ j => simp at hj
   | zero =>
    simp at hj
    subst hj
    exact hc1) (fun j hj => by
   have : j = 0 := by simpa using hj
   subst this
   rw [hr1.cell (show 0 + 0 < n by omega)]
   rfl) (fun j _ => hr1.frozen _) (fun v hv => by rw [List.mem_singleton.1 hv]; rfl)
  obtain ⟨w2, hw2⟩ : ∃ y, y = w1.setCells w.heap.size 0 [.int .i64 l] := ⟨_, rfl⟩
  have HR2 : Hid (w2.rowIs w.heap.size 3 n (fun j => .int .i64 (if j < 1 then l else 0))) := by
   unfold Hid
   rw [hw2]
   refine (Go.rowIs_setCells [.int .i64 l] 0 w1 _ hr1).congr (fun j _ => ?_)
   by_cases q : j = 0
   ·subst q; rfl
   ·rw [if_neg (by simp; omega), if_neg (by omega)]
  have HB2 : Hid (Below w.heap.size w w2) := by unfold Hid; rw [hw2]; exact Go.below_setCells (Nat.le_refl _) _ _ _ HB1.out
  have hs2 : w.heap.size < w2.heap.size := by rw [hw2]; simp [World.setCells, hs1]
  rw [← hw2] at HC
  rw [hw1] at HC
  clear HROW hr1 hc1 hw2 hs1 HB1 hw1
  go_enter Tryz.func175, Tryz.ntmps175
  go_wp2_with fail
  refine (HM.out _).mono ?_
  rintro ev wz ⟨rfl, hz⟩
  rw [hz]
  clear hz wz
  have hcp := HC.out 3
  go_wp2_with fail
  clear HC hmk hc hcp
  go_loopw [8] (fun i wr => ∃ t : Nat, 1 ≤ t ∧ t ≤ n ∧ i = .int .i64 (t : Int) ∧ wr.rowIs w.heap.size 3 n (fun j => .int .i64 (if j < t then l else 0)) ∧ w.heap.size < wr.heap.size ∧ Hid (Below w.heap.size w wr)) (fun i wr => n - (intOf i).toNat)
  case atStart => exact ⟨1, Nat.le_refl _, by omega, rfl, HR2.out, hs2, HB2.out⟩
  case round =>
   clear HR2 hs2 HB2
   obtain ⟨t, ht1, ht2, rfl, hrow, hws, hb⟩ := hrel
   by_cases htn : t < n
   ·obtain ⟨hrun, hrow2⟩ : (∀ ty, _) ∧ _ := ⟨fun ty => (copy_more ty hrow ht1 htn hn).1, (copy_more 81 hrow ht1 htn hn).2⟩
    obtain ⟨m, hm⟩ : ∃ m, m = min t (n - t) := ⟨_, rfl⟩
    rw [← hm] at hrow2
    have hcp : (Builtin.copy_ #[81, 81] 3 #[.slice (some ⟨w.heap.size, t, none⟩) (n - t) (n - t), .slice (some ⟨w.heap.size, 0, none⟩) t n]).run Tryz.prog wr.drew = .ok (.int .i64 (m : Int)) (wr.drew.setCells w.heap.size t (List.replicate m (.int .i64 l))) := by
     have := (copy_more 3 (World.rowIs.of_block hrow rfl : wr.drew.rowIs w.heap.size 3 n (fun j => .int .i64 (if j < t then l else 0))) ht1 htn hn).1
     rw [← hm] at this
     exact this
    have HR3 : Hid ((wr.drew.setCells w.heap.size t (List.replicate m (.int .i64 l))).rowIs w.heap.size 3 n (fun j => .int .i64 (if j < t + m then l else 0))) := by
     have := (copy_more 3 (World.rowIs.of_block hrow rfl : wr.drew.rowIs w.heap.size 3 n (fun j => .int .i64 (if j < t then l else 0))) ht1 htn hn).2
     rw [← hm] at this
     exact this
    have hm1 : 1 ≤ m ∧ t + m ≤ n := by omega
    have HB3 : Hid (Below w.heap.size w (wr.drew.setCells w.heap.size t (List.replicate m (.int .i64 l)))) := Go.below_setCells (Nat.le_refl _) _ _ _ (hb.out.trans ⟨rfl, rfl, rfl, Nat.le_refl _, fun _ _ => rfl⟩)
    have HS3 : Hid (w.heap.size < (wr.drew.setCells w.heap.size t (List.replicate m (.int .i64 l))).heap.size) := by
     unfold Hid
     rw [setCells_size]
     exact hws
    clear hrun hrow2 hm
    have htI : (t : Int) < (n : Int) := by omega
    have ht0 : (0 : Int) < (t : Int) := by omega
    clear hrow
    go_wp2_with fail
    go_region
    all_goals
     go_wp2_with fail
     exact ⟨⟨t + m, by omega, by omega, by go_num, HR3.out, HS3.out, HB3.out⟩, by simp [intOf]; omega⟩
   ·obtain rfl : t = n := by omega
    have htI : ¬ (t : Int) < (t : Int) := by omega
    have HR : Hid (wr.rowIs w.heap.size 3 t (fun _ => .int .i64 l)) := hrow.congr (fun j hj => by rw [if_pos hj])
    clear hrow
    go_wp2_with fail
    go_ret
    exact ⟨rfl, HR.out, hws, hb.out⟩
theorem rep_get (n : Nat) (l : Int) {j : Nat} (hj : j < n) : (List.replicate n l).getD j 0 = l := by
 rw [List.getD_eq_getElem?_getD, List.getElem?_replicate, if_pos hj]
 rfl
theorem filled_any {w : World} {D : Nat → Prop} {l : Int} {n : Nat} (hn : n ≤ 50000) (hD : ∀ k, D k → k < w.heap.size) :
  Calls Tryz.prog 137 #[.int .i64 l, .int .i64 (n : Int)] w fun ev w' => ∃ u', ev = .returned u' ∧ Wd w' D u' (List.replicate n l) ∧ Below w.heap.size w w' := by
 have HR : Hid _ := repeat_any (w := w.alloc (.cells #[.int .i64 l] 3)) (b1 := w.heap.size) (l := l) (by simp [go_sem]) hn
 have HD : Hid _ := hD
 clear hD
 go_enter Tryz.func137, Tryz.ntmps137
 go_wp2_with fail
 refine Calls.mono HR.out ?_
 rintro ev w2 ⟨rfl, hrow, hs2, hb2⟩
 have hb : Below w.heap.size w w2 := Below.trans (by go_grown) (hb2.mono (by simp))
 have HW : Hid (Wd w2 D (.slice (some ⟨(w.alloc (.cells #[.int .i64 l] 3)).heap.size, 0, none⟩) n n) (List.replicate n l)) := by
  refine ⟨_, n, by rw [List.length_replicate], by rw [List.length_replicate]; exact Nat.le_refl _, by rw [List.length_replicate]; exact hn, (fun e => by cases e), ?_⟩
  refine Or.inr ⟨_, 0, rfl, hs2, fun e => by have := HD.out _ e; simp at this; omega, fun j hj => ?_⟩
  rw [List.length_replicate] at hj
  rw [Nat.zero_add, hrow.cell hj, rep_get n l hj]
 have esz : (w.alloc (.cells #[.int .i64 l] 3)).heap.size = w.heap.size + 1 := by simp
 rw [esz] at HW
 clear hrow hb2 HR esz
 go_wp2_with fail
 go_ret
 exact ⟨_, rfl, HW.out, hb⟩
theorem extended_any {w : World} {D : Nat → Prop} {u : Value} {L : List Int} {l : Int} {n : Nat} (h : Wd w D u L) (hl : L.length + n ≤ 50000) (hD : ∀ k, D k → k < w.heap.size) :
  Calls Tryz.prog 103 #[u, .int .i64 (n : Int), .int .i64 l] w fun ev w' => ∃ u', ev = .returned u' ∧ Wd w' D u' (L ++ List.replicate n l) ∧ Below w.heap.size w w' := by
 have HF : Hid _ := filled_any (D := D) (l := l) (n := n) (by omega) hD
 have H : Hid _ := h
 have HD : Hid _ := hD
 obtain ⟨a, c, rfl, -, -⟩ := h.sl
 clear h hD
 go_enter Tryz.func103, Tryz.ntmps103
 go_wp2_with fail
 refine Calls.mono HF.out ?_
 rintro ev w2 ⟨u2, rfl, hW2, hb2⟩
 have HB : Hid _ := below_any (H.out.below hb2) hW2 (fun k hk => Nat.lt_of_lt_of_le (HD.out k hk) hb2.size) (by rw [List.length_replicate]; exact hl)
 obtain ⟨a2, c2, e2, -, -⟩ := hW2.sl
 rw [List.length_replicate] at e2
 subst e2
 have HB2 : Hid (Below w.heap.size w w2) := hb2
 clear hW2 hb2
 go_wp2_with fail
 refine Calls.mono HB.out ?_
 rintro ev w3 ⟨u3, rfl, hW3, hb3⟩
 have hb : Below w.heap.size w w3 := HB2.out.trans (hb3.mono HB2.out.size)
 have HW3 : Hid (Wd w3 D u3 (L ++ List.replicate n l)) := hW3
 clear hW3 hb3
 go_wp2_with fail
 go_ret
 exact ⟨_, rfl, HW3.out, hb⟩
open Go.RowKit
def EQ1 (x0 : World) (F1 : Nat → Prop) (gs g0 mo : Nat) (p : Int × Gz) (y : World) : Prop := ∃ F2, Gn y F2 gs g0 mo p.2 ∧ Ch x0 y (FG F1 gs) (FG F2 gs)
def EQ3 (w : World) (F : Nat → Prop) (gs g0 mo : Nat) (p : Int × Gz) (B : Nat) (O : List Int) (v : Value) (x : World) : Prop := ∃ F2, Gn x F2 gs g0 mo p.2 ∧ Ch w x (FG F gs) (FG F2 gs) ∧ Is' x B v (O ++ [p.1]) ∧ ∀ q, v.ownBlock = some q → ¬ FG F2 gs q
structure ES (w : World) (F : Nat → Prop) (x0 : World) (F1 : Nat → Prop) (gs g0 mo : Nat) (p : Int × Gz) (B : Nat) (O : List Int) (g : Nat → Nat) (L : Nat → Bool) (x : World) : Prop where
 a0 : L 10 = false → x = x0.drew
 a1 : L 10 = true → L 11 = false → EQ1 x0 F1 gs g0 mo p x
 a2 : L 11 = true → L 12 = false → ∃ y, EQ1 x0 F1 gs g0 mo p y ∧ x = y.alloc (.cells #[.int .i64 p.1] 3 (0, 0)) ∧ g 11 = y.heap.size
 a3 : L 12 = true → EQ3 w F gs g0 mo p B O (sl (O.length + 1) (g 12)) x
 e1 : L 11 = true → L 10 = true
 e2 : L 12 = true → L 11 = true
 r5 : L 10 = true → L 5 = true
 r9 : L 10 = true → L 9 = true
section
variable {w x0 x y : World} {F F1 : Nat → Prop} {gs g0 mo B : Nat} {p : Int × Gz} {O : List Int} {g : Nat → Nat} {L : Nat → Bool} {i : Nat}
theorem ES.start : ES w F x0 F1 gs g0 mo p B O g (fun _ => false) x0.drew := ⟨fun _ => rfl, (fun e => by cases e), (fun e => by cases e), (fun e => by cases e), (fun e => by cases e), (fun e => by cases e), (fun e => by cases e), (fun e => by cases e)⟩
theorem updB_on {k : Nat} (h : L k = true) : updB L i k = true := by unfold updB; split; rfl; exact h
theorem ES.go (h : ES w F x0 F1 gs g0 mo p B O g L x) (hi : (i != 10 && i != 11 && i != 12) = true) : ES w F x0 F1 gs g0 mo p B O g (updB L i) x := by
 simp only [Bool.and_eq_true, bne_iff_ne, ne_eq] at hi
 have u10 := updB_ne (L := L) (i := i) (k := 10) (by omega)
 have u11 := updB_ne (L := L) (i := i) (k := 11) (by omega)
 have u12 := updB_ne (L := L) (i := i) (k := 12) (by omega)
 exact ⟨by rw [u10]; exact h.a0, by rw [u10, u11]; exact h.a1, by rw [u11, u12]; exact h.a2, by rw [u12]; exact h.a3, by rw [u10, u11]; exact h.e1, by rw [u11, u12]; exact h.e2, by rw [u10]; exact fun e => updB_on (h.r5 e), by rw [u10]; exact fun e => updB_on (h.r9 e)⟩
theorem ES.call (h : ES w F x0 F1 gs g0 mo p B O g L x) (hLi : L 10 = false) (h5 : L 5 = true) (h9 : L 9 = true) (hy : EQ1 x0 F1 gs g0 mo p y) : ES w F x0 F1 gs g0 mo p B O g (updB L 10) y := by
 have h11 : L 11 = false := by cases e : L 11 with
  | false => rfl
  | true => rw [h.e1 e] at hLi; cases hLi
 have h12 : L 12 = false := by cases e : L 12 with
  | false => rfl
  | true => rw [h.e2 e] at h11; cases h11
 exact ⟨(fun e => by rw [updB_eq] at e; cases e), fun _ _ => hy, (fun e => by rw [show updB L 10 11 = L 11 from rfl, h11] at e; cases e), (fun e => by rw [show updB L 10 12 = L 12 from rfl, h12] at e; cases e), fun _ => updB_eq, h.e2, fun _ => h5, fun _ => h9⟩
theorem ES.built (h : ES w F x0 F1 gs g0 mo p B O g L x) (hLi : L 11 = false) (h10 : L 10 = true) : ES w F x0 F1 gs g0 mo p B O (updG g 11 x.heap.size) (updB L 11) (x.alloc (.cells #[.int .i64 p.1] 3 (0, 0))) := by
 have h12 : L 12 = false := by cases e : L 12 with
  | false => rfl
  | true => rw [h.e2 e] at hLi; cases hLi
 exact ⟨(fun e => by rw [show updB L 11 10 = L 10 from rfl, h10] at e; cases e), (fun _ e => by rw [updB_eq] at e; cases e), fun _ _ => ⟨x, h.a1 h10 hLi, rfl, updG_eq _⟩, (fun e => by rw [show updB L 11 12 = L 12 from rfl, h12] at e; cases e), fun _ => h10, fun _ => updB_eq, h.r5, h.r9⟩
theorem ES.app {q : Nat} (h : ES w F x0 F1 gs g0 mo p B O g L x) (h11 : L 11 = true) (hy : EQ3 w F gs g0 mo p B O (sl (O.length + 1) q) y) : ES w F x0 F1 gs g0 mo p B O (updG g 12 q) (updB L 12) y :=
 ⟨(fun e => by rw [show updB L 12 10 = L 10 from rfl, h.e1 h11] at e; cases e), (fun _ e => by rw [show updB L 12 11 = L 11 from rfl, h11] at e; cases e), (fun _ e => by rw [updB_eq] at e; cases e), fun _ => by rw [updG_eq]; exact hy, h.e1, fun _ => h11, h.r5, h.r9⟩
theorem EQ3.of {v v' : Value} {z : World} (h1 : EQ1 x0 F1 gs g0 mo p y) (hx : x = y.alloc (.cells #[.int .i64 p.1] 3 (0, 0))) (hCw : Ch w x0 (FG F gs) (FG F1 gs)) (hO : Is' x0 w.heap.size v O) (hsep : ∀ q, v.ownBlock = some q → ¬ FG F1 gs q) (hown : Is' z w.heap.size v' (O ++ [p.1])) (hg : x.grownBy z v.ownBlock) (hat : v'.ownBlock = v.ownBlock ∨ v'.ownBlock = some x.heap.size) : EQ3 w F gs g0 mo p w.heap.size O v' z := by
 obtain ⟨F2, hG, hC⟩ := h1
 have hxs : x.heap.size = y.heap.size + 1 := by rw [hx]; simp
 have hsep2 : ∀ q, v.ownBlock = some q → ¬ FG F2 gs q := fun q hq e => by
  rcases hC.foot q e with r | r
  ·exact hsep q hq r
  ·have := (hO.lt q hq).2; omega
 have hkeep : ∀ k, k < y.heap.size → v.ownBlock ≠ some k → z.heap[k]? = y.heap[k]? := fun k hk hn => by
  rw [hg.block k (by omega) (fun e => hn e.symm), hx]
  exact heap_alloc_old y _ hk
 have hzs := hg.size
 have hgl := hG.lt
 refine ⟨F2, ⟨?_, ?_, hG.nf, fun k hk => by have := hG.bd k hk; omega, hG.rk⟩, ?_, hown, fun q hq e => ?_⟩
 ·rw [hkeep gs hgl (fun e => hsep2 gs e (Or.inr rfl))]
  exact hG.hd
 ·exact hG.gr.kept (fun k hk hf => hkeep k hk (fun e => hsep2 k e (Or.inl hf)))
 ·have hc2 := hCw.trans hC
  refine ⟨hg.os.trans (by rw [hx]; exact hc2.os), hg.tape.trans (by rw [hx]; exact hc2.tape), hg.output.trans (by rw [hx]; exact hc2.output), by have := hc2.size; omega, fun k hk hn => ?_, fun k hk => ?_⟩
  ·rw [hkeep k (by have := hc2.size; omega) (fun e => by have := (hO.lt k e).1; omega)]
   exact hc2.block k hk hn
  ·rcases hc2.foot k hk with r | r
   ·exact Or.inl r
   ·exact Or.inr ⟨r.1, by omega⟩
 ·rcases hat with r | r
  ·exact hsep2 q (r.symm.trans hq) e
  ·rw [r] at hq
   injection hq with hq
   rcases e with e | e
   ·have := hG.bd q e; omega
   ·omega
end
end Go.Proofs.YtcahhahbcijkiaaGreat.Ag
