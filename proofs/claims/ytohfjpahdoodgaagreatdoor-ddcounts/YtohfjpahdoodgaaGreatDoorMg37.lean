/- The laws that ask more of the world: what is known of numbers, and an operation whose answer is pinned. -/
import Derived.Test.YtohfjpahdoodgaaGreatDoorDE48
namespace Go.Proofs.YtohfjpahdoodgaaGreatDoor
open Go.RowKit
set_option linter.unusedSimpArgs false
set_option linter.unusedVariables false

/-- One block more lies beside. -/
theorem Hf.add {w0 : Wx} {w : World} {F : Nat → Prop} {wb g n most k : Nat} {lv : Value} {S : St} {pn : Int → Int} {H : List HT} {p : Array Value × TypeId} (h : Hf w0 w F wb lv g n most S pn H) (ht : p.2 ≠ 36 ∧ p.2 ≠ 29) (hk : w.heap[k]? = some (.cells p.1 p.2 (0, 0))) (hf : ¬ F k) : Hf (w0.add k p) w F wb lv g n most S pn H :=
  ⟨h.bel, h.rm, h.low, h.wf, h.wl, h.wc, h.hl, h.few, fun j q e => by
    by_cases hj : j = k
    · rw [show (w0.add k p).X j = some p from if_pos hj] at e
      cases e
      exact ⟨ht, hj ▸ hk, hj ▸ hf⟩
    · exact h.xb j q ((if_neg hj).symm.trans e)⟩
/-- A number that is a function's diagram. -/
structure Fv (n : Nat) (S : St) (f : Int) (V : (Int → Bool) → Bool) : Prop where
  al : alive S.ns f
  vl : ∀ x, val n S.ns x f = V x
section
variable {n : Nat} {S S' : St} {f h : Int} {V V' : (Int → Bool) → Bool}
theorem Fv.grow (k : Fv n S f V) (g : Good n S.ns S.sp) (hp : S.ns <+: S'.ns) : Fv n S' f V := ⟨pre_alive hp k.al, fun x => (pre_val g hp x k.al).trans (k.vl x)⟩
theorem Fv.eq (k : Fv n S f V) (g : Good n S.ns S.sp) (k' : Fv n S h V') (e : ∀ x, V x = V' x) : f = h :=
  val_eq g k.al k'.al fun x => by rw [k.vl x, k'.vl x, e x]
theorem Fv.congr (k : Fv n S f V) (e : ∀ x, V x = V' x) : Fv n S f V' := ⟨k.al, fun x => (k.vl x).trans (e x)⟩
theorem Fv.of (ha : alive S.ns f) : Fv n S f (fun x => val n S.ns x f) := ⟨ha, fun _ => rfl⟩
theorem Fv.c0 (g : Good n S.ns S.sp) : Fv n S 0 (fun _ => false) := ⟨g.a0, fun x => (val_01 n S.ns x).1⟩
theorem Fv.c1 (g : Good n S.ns S.sp) : Fv n S 1 (fun _ => true) := ⟨g.a1, fun x => (val_01 n S.ns x).2⟩
end
/-- The world of a law, its variables w and m in blocks of their own; no number is pinned more than c times, and there are at most 64 d nodes. -/
structure LW (w0 : Wx) (w : World) (bm bw wb g n : Nat) (c d : Nat) (S : St) : Prop where
  ex : ∃ F lv pn H, Hf w0 w F wb lv g n 16384 S pn H ∧ ¬ F bm ∧ ¬ F bw ∧ ∀ f, pn f ≤ (c : Int)
  m : w.heap[bm]? = some (.cells #[.pointer (some ⟨g, 0, none⟩)] 26 (0, 0))
  w : w.heap[bw]? = some (.cells #[.pointer (some ⟨wb, 0, none⟩)] 24 (0, 0))
  cn : cntF S.ns ≤ 64 * d
section
variable {w0 : Wx} {w w' : World} {bm bw wb g n c d : Nat} {S S' : St}
theorem LW.below (h : LW w0 w bm bw wb g n c d S) (hb : Below w.heap.size w w') : LW w0 w' bm bw wb g n c d S := by
  obtain ⟨F, lv, pn, H, h1, h2, h3, h4⟩ := h.ex
  exact ⟨⟨F, lv, pn, H, h1.below hb, h2, h3, h4⟩, (hb.block _ (blk_lt h.m)).trans h.m, (hb.block _ (blk_lt h.w)).trans h.w, h.cn⟩
theorem LW.good (h : LW w0 w bm bw wb g n c d S) : Good n S.ns S.sp := by
  obtain ⟨F, lv, pn, H, h1, -⟩ := h.ex
  exact h1.rm.good
theorem LW.bel (h : LW w0 w bm bw wb g n c d S) : Below w0.w.heap.size w0.w w := by
  obtain ⟨F, lv, pn, H, h1, -⟩ := h.ex
  exact h1.bel
/-- What an operation leaves that isn't pinned yet. -/
theorem LW.op {F F' : Nat → Prop} {lv : Value} {pn : Int → Int} {H : List HT} (h : LW w0 w bm bw wb g n c d S) (hf : Hf w0 w F wb lv g n 16384 S pn H) (h2 : ¬ F bm) (h3 : ¬ F bw) (h4 : ∀ f, pn f ≤ (c : Int)) (hc : Ch w w' F F') (hr : Rm w' F' g n 16384 S' pn) (hg : Gw n S S' (2 ^ n)) (hn : n ≤ 6) : LW w0 w' bm bw wb g n c (d + 1) S' := by
  have hp : 2 ^ n ≤ 64 := Nat.le_trans (Nat.pow_le_pow_right (by decide) hn) (by decide)
  exact ⟨⟨F', lv, pn, H, hf.ch hc hr, hc.old (blk_lt h.m) h2, hc.old (blk_lt h.w) h3, h4⟩, (hc.block _ (blk_lt h.m) h2).trans h.m, (hc.block _ (blk_lt h.w) h3).trans h.w, by have := hg.cnt; have := h.cn; omega⟩
theorem Gr.pnz {F : Nat → Prop} {vars most : Nat} {pn : Int → Int} (h : Gr w F g vars most S pn) (f : Int) : 0 ≤ pn f := by
  obtain ⟨m, p, v, u, hx, -⟩ := h
  have := hx.pins.rg f
  omega
set_option maxRecDepth 20000 in
set_option maxHeartbeats 1600000 in
theorem get_any (h : LW w0 w bm bw wb g n c d S) (hc : c ≤ 1000) {f : Int} (hf : alive S.ns f) :
    Calls Tryz.prog 9 #[.pointer (some ⟨wb, 0, none⟩), .int .i64 f, .int .i64 0] w fun e w' => e = .returned (.int .i64 f) ∧ LW w0 w' bm bw wb g n (c + 1) d S := by
  obtain ⟨F, lv, pn, H, h1, h2, h3, h4⟩ := h.ex
  have hp := pin_any h1.rm.gr f (by have := h4 f; omega)
  rw [if_pos hf] at hp
  have HP : Hid _ := hp
  have m0 := h1.cells.1
  have ml := h1.cells.2.2.2.2.1
  have HH : Hid _ := h
  have H1 : Hid _ := h1
  have H2 : Hid _ := h2
  have H3 : Hid _ := h3
  have H4 : Hid _ := h4
  have HF : Hid _ := hf
  clear hp h h1 h2 h3 h4 hf
  go_enter Tryz.func9, Tryz.ntmps9
  go_wp2_with fail
  refine Calls.mono HP.out ?_
  rintro e w1 ⟨rfl, F', hg, hch⟩
  go_wp2_with fail
  go_ret
  refine ⟨rfl, ⟨⟨F', lv, _, H, H1.out.ch hch ⟨hg, H1.out.rm.sp, ?_⟩, hch.old (blk_lt HH.out.m) H2.out, hch.old (blk_lt HH.out.w) H3.out, fun k => ?_⟩, (hch.block _ (blk_lt HH.out.m) H2.out).trans HH.out.m, (hch.block _ (blk_lt HH.out.w) H3.out).trans HH.out.w, HH.out.cn⟩⟩
  · obtain ⟨P, p1, p2⟩ := H1.out.rm.ps
    split
    · next q =>
      refine ⟨f :: P, fun k => ?_, fun k hk => ?_⟩
      · unfold pinA
        rw [List.mem_cons, p1]
        by_cases e : k = f
        · subst e
          simp only [true_or, if_true, true_iff]
          have := H1.out.rm.gr.pnz k
          omega
        · simp [e]
      · rcases List.mem_cons.1 hk with rfl | q2
        · exact HF.out
        · exact p2 _ q2
    · exact ⟨P, p1, p2⟩
  · have := H4.out k
    have := H4.out f
    split
    · unfold pinA
      split <;> omega
    · omega
end

/-- What a number is worth, told by those of three others. -/
inductive Ex
  | a | b | c | o | i
  | nt (x : Ex)
  | an (x y : Ex)
  | orr (x y : Ex)
  | xr (x y : Ex)
  | it (x y z : Ex)
def Ex.ev : Ex → Bool → Bool → Bool → Bool
  | .a, p, _, _ => p
  | .b, _, q, _ => q
  | .c, _, _, r => r
  | .o, _, _, _ => false
  | .i, _, _, _ => true
  | .nt x, p, q, r => !x.ev p q r
  | .an x y, p, q, r => x.ev p q r && y.ev p q r
  | .orr x y, p, q, r => x.ev p q r || y.ev p q r
  | .xr x y, p, q, r => xor (x.ev p q r) (y.ev p q r)
  | .it x y z, p, q, r => if x.ev p q r then y.ev p q r else z.ev p q r
/-- The law's world, and what is known of numbers. -/
structure KW (w0 : Wx) (w : World) (bm bw wb g n c : Nat) (S : St) (A B C : (Int → Bool) → Bool) (L : List (Int × Ex)) : Prop where
  lw : LW w0 w bm bw wb g n c c S
  k : ∀ p ∈ L, Fv n S p.1 (fun x => p.2.ev (A x) (B x) (C x))
section
variable {w0 : Wx} {w w' : World} {bm bw wb g n c : Nat} {S S' : St} {A B C : (Int → Bool) → Bool} {L : List (Int × Ex)}
theorem KW.more (h : KW w0 w bm bw wb g n c S A B C L) {f : Int} {e : Ex} (hl : LW w0 w' bm bw wb g n (c + 1) (c + 1) S') (hp : S.ns <+: S'.ns) (hv : Fv n S' f (fun x => e.ev (A x) (B x) (C x))) : KW w0 w' bm bw wb g n (c + 1) S' A B C ((f, e) :: L) :=
  ⟨hl, fun p hq => by
    rcases List.mem_cons.1 hq with rfl | q
    · exact hv
    · exact (h.k p q).grow h.lw.good hp⟩
theorem KW.eq (h : KW w0 w bm bw wb g n c S A B C L) {x y : Int} {e e' : Ex} (h1 : (x, e) ∈ L) (h2 : (y, e') ∈ L) (he : ∀ p q r, e.ev p q r = e'.ev p q r) : x = y :=
  (h.k _ h1).eq h.lw.good (h.k _ h2) fun _ => he _ _ _
end
end Go.Proofs.YtohfjpahdoodgaaGreatDoor

/- Counts, plainly: under how many assignments. -/
namespace Go.Proofs.YtohfjpahdoodgaaGreatDoor

/-- At how many of the assignments that differ from x in m variables from v on. -/
def Rt (V : (Int → Bool) → Bool) : Nat → Nat → (Int → Bool) → Nat
  | 0, _, x => if V x then 1 else 0
  | m + 1, v, x => Rt V m (v + 1) (setx x (v : Int) false) + Rt V m (v + 1) (setx x (v : Int) true)
theorem rt_congr {V V' : (Int → Bool) → Bool} : ∀ (m v : Nat) (x : Int → Bool), (∀ y, (∀ k, k < (v : Int) → y k = x k) → V y = V' y) → Rt V m v x = Rt V' m v x
  | 0, v, x, h => by unfold Rt; rw [h x fun _ _ => rfl]
  | m + 1, v, x, h => by
    unfold Rt
    rw [rt_congr m (v + 1) (setx x v false) fun y hy => h y fun k hk => by rw [hy k (by omega)]; unfold setx; rw [if_neg (by omega)],
      rt_congr m (v + 1) (setx x v true) fun y hy => h y fun k hk => by rw [hy k (by omega)]; unfold setx; rw [if_neg (by omega)]]
theorem rt_const (b : Bool) : ∀ (m v : Nat) (x : Int → Bool), Rt (fun _ => b) m v x = if b then 2 ^ m else 0
  | 0, v, x => by unfold Rt; cases b <;> rfl
  | m + 1, v, x => by
    unfold Rt
    rw [rt_const b m, rt_const b m]
    cases b
    · rfl
    · simp only [if_true, Nat.pow_succ]; omega
theorem rt_and (A B : (Int → Bool) → Bool) : ∀ (m v : Nat) (x : Int → Bool), Rt (fun y => A y && B y) m v x + Rt (fun y => A y || B y) m v x = Rt A m v x + Rt B m v x
  | 0, v, x => by unfold Rt; cases A x <;> cases B x <;> rfl
  | m + 1, v, x => by
    unfold Rt
    have h1 := rt_and A B m (v + 1) (setx x v false)
    have h2 := rt_and A B m (v + 1) (setx x v true)
    omega
theorem rt_not (A : (Int → Bool) → Bool) : ∀ (m v : Nat) (x : Int → Bool), Rt A m v x + Rt (fun y => !A y) m v x = 2 ^ m
  | 0, v, x => by unfold Rt; cases A x <;> rfl
  | m + 1, v, x => by
    unfold Rt
    have h1 := rt_not A m (v + 1) (setx x v false)
    have h2 := rt_not A m (v + 1) (setx x v true)
    rw [Nat.pow_succ]
    omega
/-- A diagram's count is that of its function. -/
theorem rt_cv {n : Nat} {ns : List T3} {sp : List Int} (g : Good n ns sp) : ∀ (m v : Nat) (x : Int → Bool) (i : Int), alive ns i → v + m = n → (v : Int) ≤ (at3 ns i).1 → Rt (fun y => val n ns y i) m v x * 2 ^ v = cv n ns i
  | 0, v, x, i, ha, hv, hi => by
    have h1 := (g.var ha).2
    have hle : i ≤ 1 := by
      by_cases h2 : 2 ≤ i
      · have := (g.nd i h2 ha).2.1; omega
      · omega
    unfold Rt
    rw [cv_le hle, val_le hle, show v = n by omega]
    by_cases e : i = 1
    · simp [e]
    · simp [e]
  | m + 1, v, x, i, ha, hv, hi => by
    unfold Rt
    by_cases he : (v : Int) = (at3 ns i).1
    · have h2 : 2 ≤ i := g.top ha (by omega)
      obtain ⟨q1, q2, q3, q4, q5, q6, q7⟩ := g.nd i h2 ha
      rw [rt_congr (V' := fun y => val n ns y (at3 ns i).2.1) m (v + 1) (setx x v false) fun y hy => by
          rw [val_step g y ha h2, ← he, hy (v : Int) (by omega)]; simp [setx],
        rt_congr (V' := fun y => val n ns y (at3 ns i).2.2) m (v + 1) (setx x v true) fun y hy => by
          rw [val_step g y ha h2, ← he, hy (v : Int) (by omega)]; simp [setx]]
      have h3 := rt_cv g m (v + 1) (setx x v false) _ q4 (by omega) (by omega)
      have h4 := rt_cv g m (v + 1) (setx x v true) _ q5 (by omega) (by omega)
      have h5 := cv_even g ha h2
      rw [Nat.pow_succ] at h3 h4
      have h6 : (Rt (fun y => val n ns y (at3 ns i).2.1) m (v + 1) (setx x v false) + Rt (fun y => val n ns y (at3 ns i).2.2) m (v + 1) (setx x v true)) * (2 ^ v * 2) = 2 * cv n ns i := by
        rw [Nat.add_mul, h3, h4, h5]
      rw [← Nat.mul_assoc] at h6
      omega
    · have h3 := rt_cv g m (v + 1) (setx x v false) i ha (by omega) (by omega)
      have h4 := rt_cv g m (v + 1) (setx x v true) i ha (by omega) (by omega)
      rw [Nat.pow_succ] at h3 h4
      have h6 : (Rt (fun y => val n ns y i) m (v + 1) (setx x v false) + Rt (fun y => val n ns y i) m (v + 1) (setx x v true)) * (2 ^ v * 2) = 2 * cv n ns i := by
        rw [Nat.add_mul, h3, h4]; omega
      rw [← Nat.mul_assoc] at h6
      omega
theorem Fv.cv {n : Nat} {S : St} {f : Int} {V : (Int → Bool) → Bool} (k : Fv n S f V) (g : Good n S.ns S.sp) : cv n S.ns f = Rt V n 0 fun _ => false := by
  have h := rt_cv g n 0 (fun _ => false) f k.al (by omega) (by have := (g.var k.al).1; omega)
  rw [Nat.pow_zero, Nat.mul_one, show (fun y => val n S.ns y f) = V from funext k.vl] at h
  exact h.symm
end Go.Proofs.YtohfjpahdoodgaaGreatDoor

/- The text of a count of two digits at most. -/
namespace Go.Proofs.YtohfjpahdoodgaaGreatDoor
open Go.RowKit
set_option linter.unusedSimpArgs false
set_option linter.unusedVariables false

/-- Decimal digits of a number below 65. -/
def dgs (v : Nat) : List UInt8 := if v < 10 then [UInt8.ofNat (48 + v)] else [UInt8.ofNat (48 + v / 10), UInt8.ofNat (48 + v % 10)]
theorem dgs_len (v : Nat) : 1 ≤ (dgs v).length ∧ (dgs v).length ≤ 2 := by unfold dgs; split <;> simp
theorem upto65 {p : Nat → Prop} {v : Nat} (hv : v < 65) (h : ∀ a, a < 65 → v = a → p v) : p v := h v hv rfl
set_option maxRecDepth 20000 in
set_option maxHeartbeats 3200000 in
theorem small_any {v : Nat} (hv : v < 65) (w : World) : Calls Tryz.prog 89 #[.int .i64 (v : Int)] w fun e w' => e = .returned (.string ⟨(dgs v).toArray⟩) ∧ w' = w := by
  have hc : v = 0 ∨ v = 1 ∨ v = 2 ∨ v = 3 ∨ v = 4 ∨ v = 5 ∨ v = 6 ∨ v = 7 ∨ v = 8 ∨ v = 9 ∨ v = 10 ∨ v = 11 ∨ v = 12 ∨ v = 13 ∨ v = 14 ∨ v = 15 ∨ v = 16 ∨ v = 17 ∨ v = 18 ∨ v = 19 ∨ v = 20 ∨ v = 21 ∨ v = 22 ∨ v = 23 ∨ v = 24 ∨ v = 25 ∨ v = 26 ∨ v = 27 ∨ v = 28 ∨ v = 29 ∨ v = 30 ∨ v = 31 ∨ v = 32 ∨ v = 33 ∨ v = 34 ∨ v = 35 ∨ v = 36 ∨ v = 37 ∨ v = 38 ∨ v = 39 ∨ v = 40 ∨ v = 41 ∨ v = 42 ∨ v = 43 ∨ v = 44 ∨ v = 45 ∨ v = 46 ∨ v = 47 ∨ v = 48 ∨ v = 49 ∨ v = 50 ∨ v = 51 ∨ v = 52 ∨ v = 53 ∨ v = 54 ∨ v = 55 ∨ v = 56 ∨ v = 57 ∨ v = 58 ∨ v = 59 ∨ v = 60 ∨ v = 61 ∨ v = 62 ∨ v = 63 ∨ v = 64 := by omega
  rcases hc with rfl | rfl | rfl | rfl | rfl | rfl | rfl | rfl | rfl | rfl | rfl | rfl | rfl | rfl | rfl | rfl | rfl | rfl | rfl | rfl | rfl | rfl | rfl | rfl | rfl | rfl | rfl | rfl | rfl | rfl | rfl | rfl | rfl | rfl | rfl | rfl | rfl | rfl | rfl | rfl | rfl | rfl | rfl | rfl | rfl | rfl | rfl | rfl | rfl | rfl | rfl | rfl | rfl | rfl | rfl | rfl | rfl | rfl | rfl | rfl | rfl | rfl | rfl | rfl | rfl
  all_goals
    go_enter Tryz.func89, Tryz.ntmps89
    go_wp2_with fail
    go_ret
    exact ⟨by kernel_rfl, rfl⟩
theorem format_any {v : Nat} (hv : v < 65) (w : World) : Calls Tryz.prog 67 #[.int .u64 (v : Int), .int .i64 10] w fun e w' => e = .returned (.string ⟨(dgs v).toArray⟩) ∧ w' = w := by
  have HS : Hid _ := small_any hv w
  have h1 : (v : Int) < 100 := by omega
  go_enter Tryz.func67, Tryz.ntmps67
  go_wp2_with fail
  refine Calls.mono HS.out ?_
  rintro e w1 ⟨rfl, rfl⟩
  go_wp2_with fail
  go_ret
  exact ⟨rfl, rfl⟩
theorem formatU_any {v : Nat} (hv : v < 65) (w : World) : Calls Tryz.prog 44 #[.int .u64 (v : Int), .int .i64 10] w fun e w' => e = .returned (.string ⟨(dgs v).toArray⟩) ∧ w' = w := by
  have HS : Hid _ := format_any hv w
  go_enter Tryz.func44, Tryz.ntmps44
  go_wp2_with fail
  refine Calls.mono HS.out ?_
  rintro e w1 ⟨rfl, rfl⟩
  go_wp2_with fail
  go_ret
  exact ⟨rfl, rfl⟩
theorem text_any {w : World} {v : Value} {q : Nat} (hq : q < 65) (h : Um w v q) : Calls Tryz.prog 32 #[v] w fun e w' => e = .returned (.string ⟨(dgs q).toArray⟩) ∧ Below w.heap.size w w' := by
  obtain ⟨r, o, c, rfl, hr, hc⟩ := h.ex
  have hnew := heap_alloc_new w (.cells #[.pointer none, .slice none 0 0] 97)
  have hc1 : (w.alloc (.cells #[.pointer none, .slice none 0 0] 97)).cell? ⟨r, o, none⟩ = some (.int .u64 (q : Int)) := by rw [← hc]; exact World.cell?_of_block (a := ⟨r, o, none⟩) (Lib.alloc_old w _ r hr)
  have HW : Hid (Calls Tryz.prog 43 #[.pointer (some ⟨w.heap.size, 0, none⟩), .string ⟨(dgs q).toArray⟩] (w.alloc (.cells #[.pointer none, .slice none 0 0] 97)) fun e w' => e = .returned (.tuple #[(.int .i64 ((dgs q).length : Int)), .nilIface]) ∧ Lib.IsBuilderF 97 5 w.heap.size w.heap.size (Lib.byteCells (dgs q)) w' ∧ Below w.heap.size w w') := by
    have hbl : Below w.heap.size w (w.alloc (.cells #[.pointer none, .slice none 0 0] 97)) := (Below.refl _ _).alloc (Nat.le_refl _) _
    refine (writeString_any w.heap.size w.heap.size [] ⟨(dgs q).toArray⟩ _ (Or.inl ⟨by omega, .slice none 0 0, hnew, ⟨by simp, Or.inl ⟨rfl, rfl⟩⟩, by simp [Value.ownBlock]⟩) (by have := (dgs_len q).2; show 0 + (dgs q).toArray.size ≤ 1000000; rw [List.size_toArray]; omega) (by simp)).mono ?_
    rintro e w' ⟨rfl, h1, h2, h3⟩
    exact ⟨rfl, Or.inr h1, hbl.trans h2⟩
  have HF : Hid _ := formatU_any hq (w.alloc (.cells #[.pointer none, .slice none 0 0] 97))
  clear hnew h
  go_enter Tryz.func32, Tryz.ntmps32
  go_wp2_with fail
  go_loopw [3] (fun i wr => i = .int .i64 0 ∧ w = wr) (fun _ _ => 0)
  case atStart => exact ⟨rfl, rfl⟩
  case round =>
  obtain ⟨rfl, rfl⟩ := hrel
  go_wp2_with fail
  refine Calls.mono HF.out ?_
  rintro e w1 ⟨rfl, rfl⟩
  go_wp2_with fail
  refine Calls.mono HW.out ?_
  rintro e w1 ⟨rfl, hW, hb⟩
  have HB : Hid _ := hb
  have HS : Hid _ := (bld_string w.heap.size _ (dgs q) w1 hW hb.size).mono (fun e w' hh => (⟨hh.1, hh.2.2.1⟩ : e = .returned (.string ⟨(dgs q).toArray⟩) ∧ Below w.heap.size w1 w'))
  clear hW hb HW HF
  go_wp2_with fail
  go_loopw [5] (fun i wr => i = .int .i64 (-1) ∧ w1 = wr) (fun _ _ => 0)
  case atStart => exact ⟨rfl, rfl⟩
  case round =>
  obtain ⟨rfl, rfl⟩ := hrel
  go_wp2_with fail
  refine Calls.mono HS.out ?_
  rintro e w2 ⟨rfl, hb2⟩
  go_wp2_with fail
  go_ret
  exact ⟨rfl, HB.out.trans hb2⟩
/-- Count of what has two assignments. -/
theorem count_any {w : World} {F0 : Nat → Prop} {g vars most : Nat} {S : St} {pn : Int → Int} (h0 : Gr w F0 g vars most S pn) (hv : vars ≤ 58) (f : Int) (ha : alive S.ns f) {q : Nat} (hq : q < 65) (h2 : cv vars S.ns f = q) :
    Calls Tryz.prog 13 #[.pointer (some ⟨g, 0, none⟩), .int .i64 f] w fun e w' => e = .returned (.tuple #[.string ⟨(dgs q).toArray⟩, .int .i64 0]) ∧ Below w.heap.size w w' := by
  have HH2 : Hid (Calls Tryz.prog 30 #[.pointer (some ⟨g, 1, none⟩), .int .i64 f] w fun e w' => e = .returned (.bool true) ∧ w' = w) := by
    have := has_any h0.cut f
    rwa [decide_eq_true ha] at this
  have HC : Hid (Calls Tryz.prog 31 #[.pointer (some ⟨g, 0, none⟩), .int .i64 f] w fun e w' => ∃ u, e = .returned u ∧ Um w' u q ∧ Below w.heap.size w w') := by
    have := count1 h0 hv f ha
    rw [h2] at this
    exact this
  clear h0 ha h2
  go_enter Tryz.func13, Tryz.ntmps13
  go_wp2_with fail
  refine HH2.out.mono ?_
  rintro e w0 ⟨rfl, hw0⟩
  rw [hw0]
  clear hw0 w0
  go_wp2_with fail
  refine HC.out.mono ?_
  rintro e w1 ⟨u, rfl, hu, hb⟩
  have HB : Hid _ := hb
  have HT : Hid _ := text_any hq hu
  obtain ⟨r, o, c, rfl, -, -⟩ := hu.ex
  clear hu hb HC HH2
  go_wp2_with fail
  refine Calls.mono HT.out ?_
  rintro e w2 ⟨rfl, hb2⟩
  go_wp2_with fail
  refine bodyPost_ret (v := .tuple #[.string ⟨(dgs q).toArray⟩, .int .i64 0]) (by simp [results, Tryz.results13, go_sem]) rfl ?_
  exact ⟨rfl, HB.out.trans (hb2.mono HB.out.size)⟩
end Go.Proofs.YtohfjpahdoodgaaGreatDoor
