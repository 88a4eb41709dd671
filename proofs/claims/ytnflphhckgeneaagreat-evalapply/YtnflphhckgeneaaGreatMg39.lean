/- Contracts: the document's concatenation; its extension's and rotation's numbers. -/
import Derived.Test.YtnflphhckgeneaaGreatU5
import Derived.Test.YtnflphhckgeneaaGreatMg13
import Derived.Deep.CutRange
import Derived.Test.YtnflphhckgeneaaGreatU21
import Derived.Test.YtnflphhckgeneaaGreatO2
namespace Go.Proofs.YtnflphhckgeneaaGreat
set_option maxHeartbeats 12800000
set_option maxRecDepth 100000
open Go.RowKit
set_option linter.unusedSimpArgs false
set_option linter.unusedVariables false

theorem bs_row {w : World} {base g V m : Nat} (h : Bs w base (.slice (some ⟨g, 0, none⟩) V V) (bl V m)) : w.ownsRow base 4 1 (.slice (some ⟨g, 0, none⟩) V V) V (bv (bl V m)) := by
  unfold Bs at h; rw [bl_len] at h; exact h
theorem cat_bs {w : World} {base W n V m : Nat} {v : Value} (h : Bs w base v (bl V m ++ bl W n)) (hn : n < 2 ^ W) (hm : m < 2 ^ V) (h0 : 0 < V + W) (hs : W + V ≤ 128) :
    Rt 49 #[v] w (.agg #[.int .i64 ((W : Int) + V), .int .u64 (LO (cat n V m)), .int .u64 (HI (cat n V m))]) := by
  have hl : (bl V m ++ bl W n).length = V + W := by simp [bl]
  have hw := word_bs h (by rw [hl]; exact h0) (by rw [hl]; omega)
  have e : nb (bl V m ++ bl W n) = cat n V m := by
    rw [nb_append, nb_bl, nb_bl, bl_len, Nat.mod_eq_of_lt hn, Nat.mod_eq_of_lt hm]
    unfold cat; rw [Nat.mul_comm]; omega
  rw [hl, e, show ((V + W : Nat) : Int) = (W : Int) + V by omega] at hw
  exact hw


/-- A slice's block and room in one number. -/
def slu (N p : Nat) : Value := .slice (some ⟨p / 2 ^ 64, 0, none⟩) N (p % 2 ^ 64)
theorem slu_mk {w : World} {base : Nat} {v : Value} {l : List Bool} (h : Bs w base v l) (hl : 0 < l.length) : ∃ p, v = slu l.length p := by
  rcases h.2 with ⟨-, h0⟩ | ⟨g, c, cur, rfl, -, -, -, hc, -⟩
  · omega
  · refine ⟨g * 2 ^ 64 + c, ?_⟩
    have hc2 : c < 2 ^ 64 := by unfold maxLen at hc; omega
    unfold slu
    rw [show (g * 2 ^ 64 + c) / 2 ^ 64 = g by omega, show (g * 2 ^ 64 + c) % 2 ^ 64 = c by omega]

structure CSt (w : World) (W n V m : Nat) (g : Nat → Nat) (L : Nat → Bool) (x : World) : Prop where
  below : Below w.heap.size w x
  size : w.heap.size + 3 ≤ x.heap.size
  ca : At x w.heap.size [.int .i64 W, .int .u64 (LO n), .int .u64 (HI n)]
  cb : At x (w.heap.size + 1) [.int .i64 V, .int .u64 (LO m), .int .u64 (HI m)]
  fr : ∀ o, x.frozen? ⟨w.heap.size + 2, o, none⟩ = false
  cr : ∀ k, k < 3 → (x.cell? ⟨w.heap.size + 2, k, none⟩).isSome = true
  res : L 6 = true → At x (w.heap.size + 2) [.int .i64 ((W : Int) + V), .int .u64 (LO (cat n V m)), .int .u64 (HI (cat n V m))]
  b1 : L 1 = true → L 4 = false → Bs x (w.heap.size + 3) (.slice (some ⟨g 1, 0, none⟩) V V) (bl V m)
  b3 : L 3 = true → L 4 = false → Bs x (w.heap.size + 3) (.slice (some ⟨g 3, 0, none⟩) W W) (bl W n)
  b4 : L 4 = true → Bs x (w.heap.size + 3) (slu (V + W) (g 4)) (bl V m ++ bl W n)
  d4 : L 4 = true → L 1 = true ∧ L 3 = true

section
variable {w x y : World} {W n V m i : Nat} {g : Nat → Nat} {L : Nat → Bool}
theorem CSt.ext (h : CSt w W n V m g L x) (hx : Below x.heap.size x y) (hi : (i != 1 && i != 3 && i != 4 && i != 6) = true) : CSt w W n V m g (updB L i) y := by
  simp only [Bool.and_eq_true, bne_iff_ne, ne_eq] at hi
  obtain ⟨⟨⟨i1, i3⟩, i4⟩, i6⟩ := hi
  have hz := h.size
  have u1 := updB_ne (L := L) (Ne.symm i1)
  have u3 := updB_ne (L := L) (Ne.symm i3)
  have u4 := updB_ne (L := L) (Ne.symm i4)
  have u6 := updB_ne (L := L) (Ne.symm i6)
  refine ⟨h.below.trans (hx.mono h.below.size), Nat.le_trans h.size hx.size, h.ca.below (by omega) hx, h.cb.below (by omega) hx, fun o => ?_, fun k hk => ?_, ?_, ?_, ?_, ?_, ?_⟩
  · rw [hx.frozen (p := ⟨_, o, none⟩) (by simp; omega)]; exact h.fr o
  · rw [hx.cell (p := ⟨_, k, none⟩) (by simp; omega)]; exact h.cr k hk
  · rw [u6]; exact fun e => (h.res e).below (by omega) hx
  · rw [u1, u4]; exact fun e f => (h.b1 e f).keep hx
  · rw [u3, u4]; exact fun e f => (h.b3 e f).keep hx
  · rw [u4]; exact fun e => (h.b4 e).keep hx
  · rw [u1, u3, u4]; exact h.d4
theorem CSt.go (h : CSt w W n V m g L x) (hi : (i != 1 && i != 3 && i != 4 && i != 6) = true) : CSt w W n V m g (updB L i) x := h.ext (Below.refl _ _) hi

theorem CSt.bits1 {b : Nat} (h : CSt w W n V m g L x) (hL : L 1 = false) (hx : Below x.heap.size x y) (hb : Bs y x.heap.size (.slice (some ⟨b, 0, none⟩) V V) (bl V m)) : CSt w W n V m (updG g 1 b) (updB L 1) y := by
  have hz := h.size
  have h4 : L 4 = false := by
    cases e : L 4
    · rfl
    · rw [(h.d4 e).1] at hL; cases hL
  have u3 := updB_ne (L := L) (i := 1) (k := 3) (by decide)
  have u4 := updB_ne (L := L) (i := 1) (k := 4) (by decide)
  have u6 := updB_ne (L := L) (i := 1) (k := 6) (by decide)
  refine ⟨h.below.trans (hx.mono h.below.size), Nat.le_trans h.size hx.size, h.ca.below (by omega) hx, h.cb.below (by omega) hx, fun o => ?_, fun k hk => ?_, ?_, ?_, ?_, ?_, ?_⟩
  · rw [hx.frozen (p := ⟨_, o, none⟩) (by simp; omega)]; exact h.fr o
  · rw [hx.cell (p := ⟨_, k, none⟩) (by simp; omega)]; exact h.cr k hk
  · rw [u6]; exact fun e => (h.res e).below (by omega) hx
  · intro _ _; rw [updG_eq]; exact hb.mono (by omega)
  · rw [u3, u4, updG_ne _ (by decide)]; exact fun e f => (h.b3 e f).keep hx
  · rw [u4]; intro e; rw [h4] at e; cases e
  · rw [u4]; intro e; rw [h4] at e; cases e
theorem CSt.bits3 {b : Nat} (h : CSt w W n V m g L x) (hL : L 3 = false) (hx : Below x.heap.size x y) (hb : Bs y x.heap.size (.slice (some ⟨b, 0, none⟩) W W) (bl W n)) : CSt w W n V m (updG g 3 b) (updB L 3) y := by
  have hz := h.size
  have h4 : L 4 = false := by
    cases e : L 4
    · rfl
    · rw [(h.d4 e).2] at hL; cases hL
  have u1 := updB_ne (L := L) (i := 3) (k := 1) (by decide)
  have u4 := updB_ne (L := L) (i := 3) (k := 4) (by decide)
  have u6 := updB_ne (L := L) (i := 3) (k := 6) (by decide)
  refine ⟨h.below.trans (hx.mono h.below.size), Nat.le_trans h.size hx.size, h.ca.below (by omega) hx, h.cb.below (by omega) hx, fun o => ?_, fun k hk => ?_, ?_, ?_, ?_, ?_, ?_⟩
  · rw [hx.frozen (p := ⟨_, o, none⟩) (by simp; omega)]; exact h.fr o
  · rw [hx.cell (p := ⟨_, k, none⟩) (by simp; omega)]; exact h.cr k hk
  · rw [u6]; exact fun e => (h.res e).below (by omega) hx
  · rw [u1, u4, updG_ne _ (by decide)]; exact fun e f => (h.b1 e f).keep hx
  · intro _ _; rw [updG_eq]; exact hb.mono (by omega)
  · rw [u4]; intro e; rw [h4] at e; cases e
  · rw [u4]; intro e; rw [h4] at e; cases e
theorem at_belowB {B b : Nat} {cs : List Value} (h : At x b cs) (hb : b < B) (hx : Below B x y) : At y b cs :=
  fun k v hk => by rw [hx.cell (p := ⟨b, k, none⟩) hb]; exact h k v hk
theorem CSt.app {p : Nat} (h : CSt w W n V m g L x) (hL1 : L 1 = true) (hL3 : L 3 = true) (hx : Below (w.heap.size + 3) x y) (hb : Bs y (w.heap.size + 3) (slu (V + W) p) (bl V m ++ bl W n)) : CSt w W n V m (updG g 4 p) (updB L 4) y := by
  have hz := h.size
  have u1 := updB_ne (L := L) (i := 4) (k := 1) (by decide)
  have u3 := updB_ne (L := L) (i := 4) (k := 3) (by decide)
  have u6 := updB_ne (L := L) (i := 4) (k := 6) (by decide)
  refine ⟨h.below.trans (hx.mono (by omega)), Nat.le_trans h.size hx.size, at_belowB h.ca (by omega) hx, at_belowB h.cb (by omega) hx, fun o => ?_, fun k hk => ?_, ?_, ?_, ?_, ?_, ?_⟩
  · rw [hx.frozen (p := ⟨_, o, none⟩) (by simp)]; exact h.fr o
  · rw [hx.cell (p := ⟨_, k, none⟩) (by simp)]; exact h.cr k hk
  · rw [u6]; exact fun e => at_belowB (h.res e) (by omega) hx
  · intro _ e; rw [updB_eq] at e; cases e
  · intro _ e; rw [updB_eq] at e; cases e
  · intro _; rw [updG_eq]; exact hb
  · intro _; rw [u1, u3]; exact ⟨hL1, hL3⟩
theorem Bs.fars {base b : Nat} {v : Value} {l : List Bool} (hb : b < base) : ∀ (vs : List Value) (o : Nat) (x : World), Bs x base v l → Bs (x.setCells b o vs) base v l
  | [], _, _, h => h
  | u :: r, o, x, h => by
    rw [World.setCells]
    refine Bs.fars hb r (o + 1) _ ?_
    rcases h.2 with ⟨rfl, h0⟩ | ⟨g, c, cur, rfl, hg, -⟩
    · exact ⟨h.1, Or.inl ⟨rfl, h0⟩⟩
    · exact Bs.far h (by simp; omega) u
theorem CSt.store (h : CSt w W n V m g L x) : CSt w W n V m g (updB L 6) (x.setCells (w.heap.size + 2) 0 [.int .i64 ((W : Int) + V), .int .u64 (LO (cat n V m)), .int .u64 (HI (cat n V m))]) := by
  have hz := h.size
  have u1 := updB_ne (L := L) (i := 6) (k := 1) (by decide)
  have u3 := updB_ne (L := L) (i := 6) (k := 3) (by decide)
  have u4 := updB_ne (L := L) (i := 6) (k := 4) (by decide)
  have keep : ∀ b k, b ≠ w.heap.size + 2 → (x.setCells (w.heap.size + 2) 0 [.int .i64 ((W : Int) + V), .int .u64 (LO (cat n V m)), .int .u64 (HI (cat n V m))]).cell? ⟨b, k, none⟩ = x.cell? ⟨b, k, none⟩ := fun b k hne => World.cell?_setCells_out _ _ _ _ _ (fun e => absurd e hne)
  have hin := World.cell?_setCells_in (w.heap.size + 2) [.int .i64 ((W : Int) + V), .int .u64 (LO (cat n V m)), .int .u64 (HI (cat n V m))] 0 x (fun j hj => by simpa using h.cr j hj)
  refine ⟨setCells_below _ _ _ h.below (by omega), by rw [setCells_size]; exact hz, fun k v hk => by rw [keep _ _ (by omega)]; exact h.ca k v hk, fun k v hk => by rw [keep _ _ (by omega)]; exact h.cb k v hk, fun o => by rw [World.frozen?_setCells]; exact h.fr o, fun k hk => ?_, fun _ k v hk => ?_, ?_, ?_, ?_, ?_⟩
  · have := hin k hk; rw [Nat.zero_add] at this; rw [this]; rfl
  · have hk2 := (List.getElem?_eq_some_iff.1 hk).1
    have := hin k hk2
    rw [Nat.zero_add] at this
    rw [this, ← hk]; simp [hk2]
  · rw [u1, u4]; exact fun e f => Bs.fars (by omega) _ _ _ (h.b1 e f)
  · rw [u3, u4]; exact fun e f => Bs.fars (by omega) _ _ _ (h.b3 e f)
  · rw [u4]; exact fun e => Bs.fars (by omega) _ _ _ (h.b4 e)
  · rw [u1, u3, u4]; exact h.d4
end

theorem refconcat_any {W n V m : Nat} (h1 : 1 ≤ W) (h2 : W ≤ 128) (hn : n < 2 ^ W) (k1 : 1 ≤ V) (k2 : V ≤ 128) (hm : m < 2 ^ V) (hs : W + V ≤ 128) (w : World) :
    Rt 54 #[.agg #[.int .i64 W, .int .u64 (LO (n)), .int .u64 (HI (n))], .agg #[.int .i64 V, .int .u64 (LO (m)), .int .u64 (HI (m))]] w (.tuple #[.agg #[.int .i64 ((W : Int) + V), .int .u64 (LO (cat n V m)), .int .u64 (HI (cat n V m))], .int .i64 0]) := by
  have hN : n < 2 ^ 128 := Nat.lt_of_lt_of_le hn (pow_le_128 h2)
  have hM : m < 2 ^ 128 := Nat.lt_of_lt_of_le hm (pow_le_128 k2)
  obtain ⟨i0, hi, hz0, hz1, hz2⟩ := info4
  have HI4 : Hid (Tryz.prog.info? 4 = some i0 ∧ i0.zero = some (.bool false) ∧ i0.size = 1 ∧ i0.bytes = 1) := ⟨hi, hz0, hz1, hz2⟩
  clear hi hz0 hz1 hz2
  go_enter Tryz.func54, Tryz.ntmps54
  go_wp2_with fail
  refine (refword_yes h1 h2 hn _).mono ?_
  rintro e w1 ⟨rfl, hb1⟩
  have hb1' := below_step (w := w) (by go_grown) hb1
  have hs1 := hb1'.size
  have KF1 : W3 w1 w.heap.size W n <| F3 w1 w.heap.size <| W3 w1 (w.heap.size + 1) V m <| F3 w1 (w.heap.size + 1) <| S3 w1 (w.heap.size + 1 + 1) <| F3 w1 (w.heap.size + 1 + 1) <| True := (by refine k3 hb1 ?_ ?_ ?_ <| f3 hb1 ?_ ?_ <| k3 hb1 ?_ ?_ ?_ <| f3 hb1 ?_ ?_ <| s3 hb1 ?_ ?_ ?_ <| f3 hb1 ?_ ?_ <| trivial <;> (first | (simp [go_sem]; done))); have KF1z0 := zT KF1; have KF1z1 := zT KF1.2.2.2.2; have KF1z2 := zT KF1.2.2.2.2.2.2.2.2
  clear hb1
  go_wp2_with fail
  refine (refword_yes k1 k2 hm _).mono ?_
  rintro e w2 ⟨rfl, hb2⟩
  have hb2' := below_step (w := w) (by go_grown) hb2
  have hs2 := hb2'.size
  have KF2 : W3 w2 w.heap.size W n <| F3 w2 w.heap.size <| W3 w2 (w.heap.size + 1) V m <| F3 w2 (w.heap.size + 1) <| S3 w2 (w.heap.size + 1 + 1) <| F3 w2 (w.heap.size + 1 + 1) <| True := (by refine k3 hb2 ?_ ?_ ?_ <| f3 hb2 ?_ ?_ <| k3 hb2 ?_ ?_ ?_ <| f3 hb2 ?_ ?_ <| s3 hb2 ?_ ?_ ?_ <| f3 hb2 ?_ ?_ <| trivial <;> (first | (simp [go_sem]; done) | (simp [go_sem, KF1]; done) | (simp [go_sem, KF1, World.cell?_alloc_some, frozen?_alloc_cells]; done))); have KF2z0 := zT KF2; have KF2z1 := zT KF2.2.2.2.2; have KF2z2 := zT KF2.2.2.2.2.2.2.2.2
  clear hb2 KF1
  go_wp2_with fail
  refine wp_named fun a0 ha0 => ?_
  have o2 := old_at ha0 (t := 2) rfl
  have o3 := old_at ha0 (t := 3) rfl
  have o4 := old_at ha0 (t := 4) rfl
  refine wp_region_lin (S := CSt w W n V m) [1, 3, 4] (fun _ => 0) (by kernel_rfl) (by kernel_rfl) (by rw [← ha0]; kernel_rfl) ?_ ?_
  · refine ⟨by go_grown, by have := KF2z2; simp; omega, At.three (by simp [KF2]) (by simp [KF2]) (by simp [KF2]), At.three (by simp [KF2]) (by simp [KF2]) (by simp [KF2]), fun o => by simp [KF2], fun k hk => ?_, fun e => (by cases e), fun e => (by cases e), fun e => (by cases e), fun e => (by cases e), fun e => (by cases e)⟩
    match k, hk with
    | 0, _ => simp [KF2]
    | 1, _ => simp [KF2]
    | 2, _ => simp [KF2]
  clear KF2 KF2z0 KF2z1 KF2z2 hs1 hs2 hb1' hb2'
  -- the second word
  refine' LinAll.cons _ ?_ ?_ ?_
  rotate_left 1
  · intro g L a x hLi haft hS hK; have t3 := (hK.old 3 (by kernel_rfl)).trans o3; refine go_in (wanted_all rfl) ?_; intro K hk; obtain ⟨c0, c1, c2⟩ := hS.cb.get3; clear haft hK hLi; go_simp; exact hk.out g x (fun _ _ => rfl) (hS.go rfl)
  · intro i hi; exact Or.inl (fun _ _ _ => rfl)
  -- its bits
  refine LinAll.cons (fun g => .slice (some ⟨g 1, 0, none⟩) V V) ?_ ?_ ?_
  · intro g L a x hLi haft hS hK; have t23 := hK.nw haft 0 0 23 rfl (by kernel_rfl); (try dsimp only at t23); refine go_in (wanted_all rfl) ?_; intro K hk; clear haft hK; go_simp; refine (bits_own k2 hM rfl rfl rfl _).mono ?_; rintro e y ⟨b, rfl, hB, hb⟩; have hq := hk.out (updG g 1 b) y (updG_al (by rfl)) (hS.bits1 hLi hb hB); dsimp only at hq; rw [updG_eq] at hq; exact hq
  · intro i hi; simp only [List.mem_cons, List.not_mem_nil, or_false] at hi; rcases hi with rfl | rfl | rfl; exact Or.inr (by kernel_rfl); exact Or.inl (fun g g' h => by simp only [h 1 (by decide)]); exact Or.inl (fun g g' h => by simp only [h 1 (by decide)])
  -- the first word
  refine' LinAll.cons _ ?_ ?_ ?_
  rotate_left 1
  · intro g L a x hLi haft hS hK; have t2 := (hK.old 2 (by kernel_rfl)).trans o2; refine go_in (wanted_all rfl) ?_; intro K hk; obtain ⟨c0, c1, c2⟩ := hS.ca.get3; clear haft hK hLi; go_simp; exact hk.out g x (fun _ _ => rfl) (hS.go rfl)
  · intro i hi; exact Or.inl (fun _ _ _ => rfl)
  refine LinAll.cons (fun g => .slice (some ⟨g 3, 0, none⟩) W W) ?_ ?_ ?_
  · intro g L a x hLi haft hS hK; have t25 := hK.nw haft 2 0 25 rfl (by kernel_rfl); (try dsimp only at t25); refine go_in (wanted_all rfl) ?_; intro K hk; clear haft hK; go_simp; refine (bits_own h2 hN rfl rfl rfl _).mono ?_; rintro e y ⟨b, rfl, hB, hb⟩; have hq := hk.out (updG g 3 b) y (updG_al (by rfl)) (hS.bits3 hLi hb hB); dsimp only at hq; rw [updG_eq] at hq; exact hq
  · intro i hi; simp only [List.mem_cons, List.not_mem_nil, or_false] at hi; rcases hi with rfl | rfl | rfl; exact Or.inl (fun g g' h => by simp only [h 3 (by decide)]); exact Or.inr (by kernel_rfl); exact Or.inl (fun g g' h => by simp only [h 3 (by decide)])
  -- both
  refine LinAll.cons (fun g => slu (V + W) (g 4)) ?_ ?_ ?_
  · intro g L a x hLi haft hS hK
    have hL1 := waits haft 1 (by kernel_rfl)
    have hL3 := waits haft 3 (by kernel_rfl)
    have t24 := hK.new 1 2 _ 24 _ rfl rfl rfl (by kernel_rfl) hL1
    have t26 := hK.new 3 0 _ 26 _ rfl rfl rfl (by kernel_rfl) hL3
    (try dsimp only at t24 t26)
    have hB1 := hS.b1 hL1 hLi
    have hB3 := hS.b3 hL3 hLi
    refine go_in (wanted_all rfl) ?_
    intro K hk
    refine wp_append_own _ (.tmp 24) (.tmp 26) 93 rfl (w.heap.size + 3) 4 i0 (.bool false) 1 1 Tryz.underlying93 HI4.out.1 HI4.out.2.1 HI4.out.2.2.1 HI4.out.2.2.2 rfl (by decide) _ V (bv (bl V m)) (eval_tmp t24) (bs_row hB1) ⟨g 3, 0, none⟩ W W (bv (bl W n)) (eval_tmp t26) (by simp [bv, bl]) (World.ownsRow.cells hB3 rfl) (bv_one _) (by unfold maxLen; omega) (by omega) hS.size ?_
    intro v' y hown hgrow _
    obtain ⟨hB4, hbB⟩ := app_bs (k := bl W n) hB1 (bl_len V m).symm (bl_len W n).symm hown hgrow hS.size
    obtain ⟨p, rfl⟩ := slu_mk hB4 (by simp [bl]; omega)
    rw [show (bl V m ++ bl W n).length = V + W by simp [bl]] at hB4 ⊢
    have hq := hk.out (updG g 4 p) y (updG_al (by rfl)) (hS.app hL1 hL3 hbB hB4)
    dsimp only at hq; rw [updG_eq] at hq; exact hq
  · intro i hi; simp only [List.mem_cons, List.not_mem_nil, or_false] at hi; rcases hi with rfl | rfl | rfl; exact Or.inl (fun g g' h => by simp only [h 4 (by decide)]); exact Or.inl (fun g g' h => by simp only [h 4 (by decide)]); exact Or.inr (by kernel_rfl)
  -- their word
  refine' LinAll.cons _ ?_ ?_ ?_
  rotate_left 1
  · intro g L a x hLi haft hS hK; have hL4 := waits haft 4 (by kernel_rfl); have t27 := hK.new 4 0 _ 27 _ rfl rfl rfl (by kernel_rfl) hL4; (try dsimp only at t27); have HB : Hid _ := hS.b4 hL4; refine go_in (wanted_all rfl) ?_; intro K hk; clear haft hK hLi hL4; go_simp; refine (cat_bs HB.out hn hm (by omega) hs).mono ?_; rintro e y ⟨rfl, hb⟩; exact hk.out g y (fun _ _ => rfl) (hS.ext hb rfl)
  · intro i hi; exact Or.inl (fun _ _ _ => rfl)
  -- the result
  refine LinAll.cons (fun _ => undef) ?_ ?_ ?_
  · intro g L a x hLi haft hS hK
    have t28 := hK.nw haft 5 0 28 rfl (by kernel_rfl)
    have t4 := (hK.old 4 (by kernel_rfl)).trans o4
    (try dsimp only at t28 t4)
    refine go_in (wanted_all rfl) ?_
    intro K hk
    obtain ⟨u0, c0⟩ := Option.isSome_iff_exists.1 (hS.cr 0 (by decide))
    obtain ⟨u1, c1⟩ := Option.isSome_iff_exists.1 (hS.cr 1 (by decide))
    obtain ⟨u2, c2⟩ := Option.isSome_iff_exists.1 (hS.cr 2 (by decide))
    have hf := hS.fr
    clear haft hK hLi
    go_simp
    exact hk.out g _ (fun _ _ => rfl) hS.store
  · intro i hi; exact Or.inl (fun _ _ _ => rfl)
  refine' LinAll.cons _ ?_ ?_ ?_
  rotate_left 1
  · intro g L a x hLi haft hS hK; refine go_in (wanted_all rfl) ?_; intro K hk; clear haft hK hLi; go_simp; exact hk.out g x (fun _ _ => rfl) (hS.go rfl)
  · intro i hi; exact Or.inl (fun _ _ _ => rfl)
  refine LinAll.nil fun g x hS => ?_
  subst ha0
  simp only [Act.put, List.setIfInBounds_toArray, List.set_cons_zero, List.set_cons_succ]
  clear o2 o3 o4
  obtain ⟨r0, r1, r2⟩ := (hS.res rfl).get3
  have hBq := hS.below
  clear hS
  go_wp2_with fail
  refine bodyPost_ret (v := .tuple #[.agg #[.int .i64 ((W : Int) + V), .int .u64 (LO (cat n V m)), .int .u64 (HI (cat n V m))], .int .i64 0]) (by simp [results, Tryz.results54, go_sem, r0, r1, r2]) rfl ?_
  exact ⟨rfl, hBq⟩
open Go.RowKit

theorem nb_zeros : ∀ k, nb (List.replicate k false) = 0
  | 0 => rfl
  | k + 1 => by rw [List.replicate_succ, nb, nb_zeros k]; rfl
theorem nb_ones : ∀ k, nb (List.replicate k true) = 2 ^ k - 1
  | 0 => rfl
  | k + 1 => by
    rw [List.replicate_succ, nb, nb_ones k, Nat.pow_succ]
    have := Nat.two_pow_pos k
    simp only [Bool.toNat_true]; omega
theorem nb_ext0 {W n k : Nat} (hn : n < 2 ^ W) : nb (bl W n ++ List.replicate k false) = n := by
  rw [nb_append, nb_bl, nb_zeros, Nat.mod_eq_of_lt hn]; simp
theorem nb_ext1 {W n k : Nat} (hn : n < 2 ^ W) : nb (bl W n ++ List.replicate k true) = wide W n k := by
  rw [nb_append, nb_bl, nb_ones, Nat.mod_eq_of_lt hn, bl_len]
  unfold wide
  have e : 2 ^ (W + k) = 2 ^ W * 2 ^ k := Nat.pow_add 2 W k
  have h1 := Nat.two_pow_pos W
  have h2 := Nat.two_pow_pos k
  have h3 : 2 ^ W * (2 ^ k - 1) = 2 ^ W * 2 ^ k - 2 ^ W := by rw [Nat.mul_sub, Nat.mul_one]
  have h4 : 2 ^ W ≤ 2 ^ W * 2 ^ k := Nat.le_mul_of_pos_right _ h2
  rw [h3, e]
  omega
open Go.RowKit

end Go.Proofs.YtnflphhckgeneaaGreat
