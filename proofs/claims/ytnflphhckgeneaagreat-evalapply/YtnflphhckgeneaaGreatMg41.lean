/- Contracts: program and document on one word, on a bit, on new words; what both refuse. -/
import Derived.Test.YtnflphhckgeneaaGreatMg20
import Derived.Test.YtnflphhckgeneaaGreatMg26
import Derived.Test.YtnflphhckgeneaaGreatMg28
import Derived.Test.YtnflphhckgeneaaGreatMg13
namespace Go.Proofs.YtnflphhckgeneaaGreat
set_option maxHeartbeats 12800000
set_option maxRecDepth 100000
open Go.RowKit
set_option linter.unusedSimpArgs false
set_option linter.unusedVariables false

theorem refone_not {W n : Nat} (h1 : 1 ≤ W) (h2 : W ≤ 128) (hn : n < 2 ^ W) (w : World) :
    Rt 53 #[.int .i64 10, .agg #[.int .i64 W, .int .u64 (LO (n)), .int .u64 (HI (n))]] w (.tuple #[.agg #[.int .i64 W, .int .u64 (LO (2 ^ W - 1 - n)), .int .u64 (HI (2 ^ W - 1 - n))], .int .i64 0]) := by
  have hn8 : n < 2 ^ 128 := Nat.lt_of_lt_of_le hn (pow_le_128 h2)
  have hlt : 2 ^ W - 1 - n < 2 ^ W := by have := Nat.two_pow_pos W; omega
  go_enter Tryz.func53, Tryz.ntmps53
  go_wp2_with fail
  refine (refword_yes h1 h2 hn _).mono ?_
  rintro e w1 ⟨rfl, hb1⟩
  have hb1' := below_step (w := w) (by go_grown) hb1
  have hs1 := hb1'.size
  have KF1 : W3 w1 w.heap.size W n <| F3 w1 w.heap.size <| S3 w1 (w.heap.size + 1) <| F3 w1 (w.heap.size + 1) <| True := (by refine k3 hb1 ?_ ?_ ?_ <| f3 hb1 ?_ ?_ <| s3 hb1 ?_ ?_ ?_ <| f3 hb1 ?_ ?_ <| trivial <;> (first | (simp [go_sem]; done))); have KF1z0 := zT KF1; have KF1z1 := zT KF1.2.2.2.2
  clear hb1
  go_wp2_with fail
  refine (bits_own (W := W) (n := n) h2 hn8 rfl rfl rfl _).mono ?_
  rintro e w2 ⟨g, rfl, hB, hb2⟩
  have hb2' := below_step (w := w) (by go_grown) hb2
  have hs2 := hb2'.size
  have HX : Hid (Rd w2 g W (bl W n)) := Bs.rd hB (bl_len W _).symm; clear hB
  have KF2 : W3 w2 w.heap.size W n <| F3 w2 w.heap.size <| S3 w2 (w.heap.size + 1) <| F3 w2 (w.heap.size + 1) <| True := (by refine k3 hb2 ?_ ?_ ?_ <| f3 hb2 ?_ ?_ <| s3 hb2 ?_ ?_ ?_ <| f3 hb2 ?_ ?_ <| trivial <;> (first | (simp [go_sem]; done) | (simp [go_sem, KF1]; done) | (simp [go_sem, KF1, World.cell?_alloc_some, frozen?_alloc_cells]; done))); have KF2z0 := zT KF2; have KF2z1 := zT KF2.2.2.2.2
  clear hb2 KF1
  go_wp2_with fail
  refine (rnot HX.out h2 hn).mono ?_
  rintro e w3 ⟨r, rfl, hB, hb3⟩
  have hb3' := below_step (w := w) (by go_grown) hb3
  have hs3 := hb3'.size
  have HR : Hid (Rd w3 r W (bl W (2 ^ W - 1 - n))) := Bs.rd hB (bl_len W _).symm; clear hB HX
  have KF3 : W3 w3 w.heap.size W n <| F3 w3 w.heap.size <| S3 w3 (w.heap.size + 1) <| F3 w3 (w.heap.size + 1) <| True := (by refine k3 hb3 ?_ ?_ ?_ <| f3 hb3 ?_ ?_ <| s3 hb3 ?_ ?_ ?_ <| f3 hb3 ?_ ?_ <| trivial <;> (first | (simp [go_sem]; done) | (simp [go_sem, KF2]; done) | (simp [go_sem, KF2, World.cell?_alloc_some, frozen?_alloc_cells]; done))); have KF3z0 := zT KF3; have KF3z1 := zT KF3.2.2.2.2
  clear hb3 KF2
  go_wp2_with fail
  refine (word_rd HR.out h2 hlt).mono ?_
  rintro e w4 ⟨rfl, hb4⟩
  have hb4' := below_step (w := w) (by go_grown) hb4
  have hs4 := hb4'.size
  have KF4 : W3 w4 w.heap.size W n <| F3 w4 w.heap.size <| S3 w4 (w.heap.size + 1) <| F3 w4 (w.heap.size + 1) <| True := (by refine k3 hb4 ?_ ?_ ?_ <| f3 hb4 ?_ ?_ <| s3 hb4 ?_ ?_ ?_ <| f3 hb4 ?_ ?_ <| trivial <;> (first | (simp [go_sem]; done) | (simp [go_sem, KF3]; done) | (simp [go_sem, KF3, World.cell?_alloc_some, frozen?_alloc_cells]; done))); have KF4z0 := zT KF4; have KF4z1 := zT KF4.2.2.2.2
  clear hb4 KF3
  go_wp2_with fail
  refine bodyPost_ret (v := .tuple #[.agg #[.int .i64 W, .int .u64 (LO (2 ^ W - 1 - n)), .int .u64 (HI (2 ^ W - 1 - n))], .int .i64 0]) (by simp [results, Tryz.results53, go_sem, *]) rfl ?_
  exact ⟨rfl, by go_grown⟩

theorem refone_neg {W n : Nat} (h1 : 1 ≤ W) (h2 : W ≤ 128) (hn : n < 2 ^ W) (w : World) :
    Rt 53 #[.int .i64 11, .agg #[.int .i64 W, .int .u64 (LO (n)), .int .u64 (HI (n))]] w (.tuple #[.agg #[.int .i64 W, .int .u64 (LO (neg W n)), .int .u64 (HI (neg W n))], .int .i64 0]) := by
  have hn8 : n < 2 ^ 128 := Nat.lt_of_lt_of_le hn (pow_le_128 h2)
  go_enter Tryz.func53, Tryz.ntmps53
  go_wp2_with fail
  refine (refword_yes h1 h2 hn _).mono ?_
  rintro e w1 ⟨rfl, hb1⟩
  have hb1' := below_step (w := w) (by go_grown) hb1
  have hs1 := hb1'.size
  have KF1 : W3 w1 w.heap.size W n <| F3 w1 w.heap.size <| S3 w1 (w.heap.size + 1) <| F3 w1 (w.heap.size + 1) <| True := (by refine k3 hb1 ?_ ?_ ?_ <| f3 hb1 ?_ ?_ <| s3 hb1 ?_ ?_ ?_ <| f3 hb1 ?_ ?_ <| trivial <;> (first | (simp [go_sem]; done))); have KF1z0 := zT KF1; have KF1z1 := zT KF1.2.2.2.2
  clear hb1
  go_wp2_with fail
  refine (bits_own (W := W) (n := n) h2 hn8 rfl rfl rfl _).mono ?_
  rintro e w2 ⟨g, rfl, hB, hb2⟩
  have hb2' := below_step (w := w) (by go_grown) hb2
  have hs2 := hb2'.size
  have HX : Hid (Rd w2 g W (bl W n)) := Bs.rd hB (bl_len W _).symm; clear hB
  have KF2 : W3 w2 w.heap.size W n <| F3 w2 w.heap.size <| S3 w2 (w.heap.size + 1) <| F3 w2 (w.heap.size + 1) <| True := (by refine k3 hb2 ?_ ?_ ?_ <| f3 hb2 ?_ ?_ <| s3 hb2 ?_ ?_ ?_ <| f3 hb2 ?_ ?_ <| trivial <;> (first | (simp [go_sem]; done) | (simp [go_sem, KF1]; done) | (simp [go_sem, KF1, World.cell?_alloc_some, frozen?_alloc_cells]; done))); have KF2z0 := zT KF2; have KF2z1 := zT KF2.2.2.2.2
  clear hb2 KF1
  go_wp2_with fail
  refine (refneg_any HX.out h2 hn).mono ?_
  rintro e w3 ⟨r, rfl, hB, hb3⟩
  have hb3' := below_step (w := w) (by go_grown) hb3
  have hs3 := hb3'.size
  have HR : Hid (Rd w3 r W (bl W (neg W n))) := Bs.rd hB (bl_len W _).symm; clear hB HX
  have KF3 : W3 w3 w.heap.size W n <| F3 w3 w.heap.size <| S3 w3 (w.heap.size + 1) <| F3 w3 (w.heap.size + 1) <| True := (by refine k3 hb3 ?_ ?_ ?_ <| f3 hb3 ?_ ?_ <| s3 hb3 ?_ ?_ ?_ <| f3 hb3 ?_ ?_ <| trivial <;> (first | (simp [go_sem]; done) | (simp [go_sem, KF2]; done) | (simp [go_sem, KF2, World.cell?_alloc_some, frozen?_alloc_cells]; done))); have KF3z0 := zT KF3; have KF3z1 := zT KF3.2.2.2.2
  clear hb3 KF2
  go_wp2_with fail
  refine (word_rd HR.out h2 (neg_lt W n)).mono ?_
  rintro e w4 ⟨rfl, hb4⟩
  have hb4' := below_step (w := w) (by go_grown) hb4
  have hs4 := hb4'.size
  have KF4 : W3 w4 w.heap.size W n <| F3 w4 w.heap.size <| S3 w4 (w.heap.size + 1) <| F3 w4 (w.heap.size + 1) <| True := (by refine k3 hb4 ?_ ?_ ?_ <| f3 hb4 ?_ ?_ <| s3 hb4 ?_ ?_ ?_ <| f3 hb4 ?_ ?_ <| trivial <;> (first | (simp [go_sem]; done) | (simp [go_sem, KF3]; done) | (simp [go_sem, KF3, World.cell?_alloc_some, frozen?_alloc_cells]; done))); have KF4z0 := zT KF4; have KF4z1 := zT KF4.2.2.2.2
  clear hb4 KF3
  go_wp2_with fail
  refine bodyPost_ret (v := .tuple #[.agg #[.int .i64 W, .int .u64 (LO (neg W n)), .int .u64 (HI (neg W n))], .int .i64 0]) (by simp [results, Tryz.results53, go_sem, *]) rfl ?_
  exact ⟨rfl, by go_grown⟩

open Go.RowKit

end Go.Proofs.YtnflphhckgeneaaGreat

/- As Lin2, with blocks that were there ahead of the region and are filled in it (a result's, say), and blocks that are known not to be frozen. -/
namespace Go.Proofs.YtnflphhckgeneaaGreat
open Go Go.RowKit

structure SF (w0 : World) (B : Nat) (own : List (Nat × List Value)) (pend : List (Nat × Nat × List Value)) (fl : List (Nat × Nat × List Value)) (fz : List Nat) (g : Nat → Nat) (L : Nat → Bool) (x : World) : Prop where
  ss : SS w0 B own pend g L x
  soft : ∀ b ∈ fz, b < B ∧ ∀ o, x.frozen? ⟨b, o, none⟩ = false
  room : ∀ f ∈ fl, w0.heap.size ≤ f.2.1 ∧ f.2.1 < B ∧ (∀ k, k < f.2.2.length → (x.cell? ⟨f.2.1, k, none⟩).isSome = true)
  full : ∀ f ∈ fl, L f.1 = true → At x f.2.1 f.2.2
  ne : ∀ f ∈ fl, ∀ p ∈ own, p.1 ≠ f.2.1

variable {w0 x x' : World} {B i : Nat} {own : List (Nat × List Value)} {pend fl : List (Nat × Nat × List Value)} {fz : List Nat} {g : Nat → Nat} {L : Nat → Bool}

theorem SF.ext (h : SF w0 B own pend fl fz g L x) (hx : Below x.heap.size x x') (hi : (pend.all fun q => q.1 != i && q.2.1 != i) = true) (hf : (fl.all fun f => f.1 != i) = true) : SF w0 B own pend fl fz g (updB L i) x' := by
  have hf' : ∀ f ∈ fl, f.1 ≠ i := fun f h => by simpa using List.all_eq_true.1 hf f h
  have hB := h.ss.size
  refine ⟨h.ss.ext hx hi, fun b hb => ⟨(h.soft b hb).1, fun o => ?_⟩, fun f hm => ⟨(h.room f hm).1, (h.room f hm).2.1, fun k hk => ?_⟩, fun f hm hL => ?_, h.ne⟩
  · have := (h.soft b hb).1
    rw [hx.frozen (p := ⟨b, o, none⟩) (by simp; omega)]; exact (h.soft b hb).2 o
  · have := (h.room f hm).2.1
    rw [hx.cell (p := ⟨f.2.1, k, none⟩) (by simp; omega)]; exact (h.room f hm).2.2 k hk
  · rw [updB_ne (hf' f hm)] at hL
    have := (h.room f hm).2.1
    exact (h.full f hm hL).below (by omega) hx

theorem SF.go {al : List Nat} {K : Act → World → Prop} {a : Act} {d : Option Tmp} {v : (Nat → Nat) → Value} (h : SF w0 B own pend fl fz g L x) (hk : Shut (∀ (g' : Nat → Nat) (w' : World), (∀ j, (j ≠ i ∨ al.contains i = false) → g' j = g j) → SF w0 B own pend fl fz g' (updB L i) w' → K (a.put d (v g')) w')) (hi : (pend.all fun q => q.1 != i && q.2.1 != i) = true) (hf : (fl.all fun f => f.1 != i) = true) : K (a.put d (v g)) x :=
  hk.out g x (fun _ _ => rfl) (h.ext (Below.refl _ _) hi hf)
theorem SF.on {al : List Nat} {K : Act → World → Prop} {a : Act} {d : Option Tmp} {v : (Nat → Nat) → Value} (h : SF w0 B own pend fl fz g L x) (hk : Shut (∀ (g' : Nat → Nat) (w' : World), (∀ j, (j ≠ i ∨ al.contains i = false) → g' j = g j) → SF w0 B own pend fl fz g' (updB L i) w' → K (a.put d (v g')) w')) (hx : Below x.heap.size x x') (hi : (pend.all fun q => q.1 != i && q.2.1 != i) = true) (hf : (fl.all fun f => f.1 != i) = true) : K (a.put d (v g)) x' :=
  hk.out g x' (fun _ _ => rfl) (h.ext hx hi hf)

theorem SF.alloc {c : Array Value} {ty : TypeId} (h : SF w0 B own pend fl fz g L x) (hL : L i = false) (hi : (pend.all fun q => q.2.1 != i && decide (q.2.2.length ≤ c.size)) = true) (hf : (fl.all fun f => f.1 != i) = true) :
    SF w0 B own pend fl fz (updG g i x.heap.size) (updB L i) (x.alloc (.cells c ty)) := by
  have hx : Below x.heap.size x (x.alloc (.cells c ty)) := (Below.refl _ _).alloc (Nat.le_refl _) _
  have hf' : ∀ f ∈ fl, f.1 ≠ i := fun f h => by simpa using List.all_eq_true.1 hf f h
  have hB := h.ss.size
  refine ⟨h.ss.alloc hL hi, fun b hb => ⟨(h.soft b hb).1, fun o => ?_⟩, fun f hm => ⟨(h.room f hm).1, (h.room f hm).2.1, fun k hk => ?_⟩, fun f hm hL => ?_, h.ne⟩
  · have := (h.soft b hb).1
    rw [hx.frozen (p := ⟨b, o, none⟩) (by simp; omega)]; exact (h.soft b hb).2 o
  · have := (h.room f hm).2.1
    rw [hx.cell (p := ⟨f.2.1, k, none⟩) (by simp; omega)]; exact (h.room f hm).2.2 k hk
  · rw [updB_ne (hf' f hm)] at hL
    have := (h.room f hm).2.1
    exact (h.full f hm hL).below (by omega) hx

theorem SF.store {k : Nat} {cs : List Value} (h : SF w0 B own pend fl fz g L x) (hL : L k = true) (hq : (k, i, cs) ∈ pend) (hi : (pend.all fun q => q.1 != i && (q.2.1 != i || q.1 == k)) = true)
    (hone : ∀ q ∈ pend, q.1 = k → q.2.2 = cs) (hf : (fl.all fun f => f.1 != i) = true) : SF w0 B own pend fl fz g (updB L i) (x.setCells (g k) 0 cs) := by
  have hf' : ∀ f ∈ fl, f.1 ≠ i := fun f h => by simpa using List.all_eq_true.1 hf f h
  have m1 := (h.ss.made _ hq hL).1
  simp only at m1
  have keep : ∀ b k', b ≠ g k → (x.setCells (g k) 0 cs).cell? ⟨b, k', none⟩ = x.cell? ⟨b, k', none⟩ := fun b k' hne =>
    World.cell?_setCells_out _ _ _ _ _ (fun e => absurd e hne)
  refine ⟨h.ss.store hL hq hi hone, fun b hb => ⟨(h.soft b hb).1, fun o => by rw [World.frozen?_setCells]; exact (h.soft b hb).2 o⟩, fun f hm => ⟨(h.room f hm).1, (h.room f hm).2.1, fun j hj => ?_⟩, fun f hm hLf => ?_, h.ne⟩
  · have := (h.room f hm).2.1
    rw [keep _ _ (by omega)]; exact (h.room f hm).2.2 j hj
  · rw [updB_ne (hf' f hm)] at hLf
    have := (h.room f hm).2.1
    exact fun j v hj => by rw [keep _ _ (by omega)]; exact h.full f hm hLf j v hj

theorem SF.fill {b : Nat} {cs : List Value} (h : SF w0 B own pend fl fz g L x) (hq : (i, b, cs) ∈ fl) (hi : (pend.all fun q => q.1 != i && q.2.1 != i) = true)
    (hone : ∀ f ∈ fl, (f.1 = i ∨ f.2.1 = b) → f = (i, b, cs)) : SF w0 B own pend fl fz g (updB L i) (x.setCells b 0 cs) := by
  have hi' : ∀ q ∈ pend, q.1 ≠ i ∧ q.2.1 ≠ i := fun q hq => by simpa using List.all_eq_true.1 hi q hq
  obtain ⟨b0, bB, hc⟩ := h.room _ hq
  simp only at b0 bB hc
  have keep : ∀ b' k', b' ≠ b → (x.setCells b 0 cs).cell? ⟨b', k', none⟩ = x.cell? ⟨b', k', none⟩ := fun b' k' hne =>
    World.cell?_setCells_out _ _ _ _ _ (fun e => absurd e hne)
  have hfill : At (x.setCells b 0 cs) b cs := fun j v hj => by
    have hjl : j < cs.length := (List.getElem?_eq_some_iff.1 hj).1
    have := World.cell?_setCells_in b cs 0 x (fun j hj => by simpa using hc j hj) j hjl
    rw [Nat.zero_add] at this
    rw [this, ← hj]; simp [hjl]
  refine ⟨⟨setCells_below _ _ _ h.ss.below b0, h.ss.le, by rw [setCells_size]; exact h.ss.size, fun p hp => ?_, fun q hq' hL => ?_, fun q hq' hL => ?_, fun q hq' r hr hne hL hL' => ?_⟩, fun b' hb => ⟨(h.soft b' hb).1, fun o => by rw [World.frozen?_setCells]; exact (h.soft b' hb).2 o⟩, fun f hm => ⟨(h.room f hm).1, (h.room f hm).2.1, fun j hj => ?_⟩, fun f hm hLf => ?_, h.ne⟩
  · obtain ⟨h1, h2⟩ := h.ss.own p hp
    have := h.ne _ hq p hp
    exact ⟨h1, fun j v hj => by rw [keep _ _ this]; exact h2 j v hj⟩
  · rw [updB_ne (hi' q hq').1] at hL
    obtain ⟨h1, h2, h3, h4⟩ := h.ss.made q hq' hL
    exact ⟨h1, by rw [setCells_size]; exact h2, fun o => by rw [World.frozen?_setCells]; exact h3 o, fun j hj => by rw [keep _ _ (by omega)]; exact h4 j hj⟩
  · rw [updB_ne (hi' q hq').2] at hL
    obtain ⟨h1, h2⟩ := h.ss.laid q hq' hL
    have := (h.ss.made q hq' h1).1
    exact ⟨by rw [updB_ne (hi' q hq').1]; exact h1, fun j v hj => by rw [keep _ _ (by omega)]; exact h2 j v hj⟩
  · rw [updB_ne (hi' q hq').1] at hL
    rw [updB_ne (hi' r hr).1] at hL'
    exact h.ss.apart q hq' r hr hne hL hL'
  · by_cases e : f.2.1 = b
    · have := hone f hm (Or.inr e)
      subst this
      simp only at hj ⊢
      rw [hfill j cs[j] (by simp [hj])]; rfl
    · rw [keep _ _ e]; exact (h.room f hm).2.2 j hj
  · by_cases e : f.1 = i
    · have := hone f hm (Or.inl e)
      subst this
      exact hfill
    · rw [updB_ne e] at hLf
      have hb : f.2.1 ≠ b := fun e2 => by
        have := hone f hm (Or.inr e2)
        subst this; exact e rfl
      exact fun j v hj => by rw [keep _ _ hb]; exact h.full f hm hLf j v hj

theorem SF.start (hb : Below w0.heap.size w0 x) (h : ∀ p ∈ own, At x p.1 p.2 ∧ p.2 ≠ []) (hz : ∀ b ∈ fz, b < x.heap.size ∧ ∀ o, x.frozen? ⟨b, o, none⟩ = false)
    (hc : ∀ f ∈ fl, w0.heap.size ≤ f.2.1 ∧ f.2.1 < x.heap.size ∧ (∀ k, k < f.2.2.length → (x.cell? ⟨f.2.1, k, none⟩).isSome = true)) (hn : ∀ f ∈ fl, ∀ p ∈ own, p.1 ≠ f.2.1) :
    SF w0 x.heap.size own pend fl fz g (fun _ => false) x.drew :=
  ⟨SS.start hb h, hz, hc, fun _ _ h => (by cases h), hn⟩
end Go.Proofs.YtnflphhckgeneaaGreat
