import Derived.Test.YtedldoobmmhloaaK
import Derived.Test.YtedldoobmmhloaaI
import Derived.Test.YtedldoobmmhloaaLin2
namespace Go.Proofs.Ytedldoobmmhloaa
set_option maxHeartbeats 12800000
set_option maxRecDepth 100000
open Go.RowKit
set_option linter.unusedSimpArgs false
set_option linter.unusedVariables false
def wk (W k : Nat) : Nat := W * k
def rep (V n : Nat) : Nat → Nat
 | 0 => 0
 | k + 1 => cat (rep V n k) V n
theorem rep_lt {V n : Nat} (h : n < 2 ^ V) : ∀ k, rep V n k < 2 ^ (V * k)
 | 0 => by simp [rep]
 | k + 1 => by
  have h1 := cat_lt (rep_lt h k) h
  rw [show V * k + V = V * (k + 1) from (Nat.mul_succ V k).symm] at h1
  exact h1
theorem repeat_any {W n k : Nat} {WW lo hi kk : Int} (hw : Wd WW lo hi W n) (hk : kk = k) (hk1 : 1 ≤ k) (hk2 : k ≤ 128 / W) (w : World) :
  Calls Try.prog 74 #[.agg #[.int .i64 WW, .int .u64 lo, .int .u64 hi], .int .i64 kk] w fun e w' => e = .returned (.tuple #[.agg #[.int .i64 ((wk W k : Nat) : Int), .int .u64 (LO (rep W n k)), .int .u64 (HI (rep W n k))], .int .i64 0]) ∧ Below w.heap.size w w' := by
 obtain ⟨h1, h2, hn, rfl, rfl, rfl⟩ := hw
 subst hk
 have hWk : W * k ≤ 128 := Nat.le_trans (Nat.mul_le_mul_left W hk2) (Nat.mul_div_le 128 W)
 have hkl : k ≤ 128 := Nat.le_trans hk2 (Nat.div_le_self _ _)
 have hq : ¬ ((128 : Int) / (W : Int) < (k : Int)) := by
  rw [show ((128 : Int) / (W : Int)) = ((128 / W : Nat) : Int) from rfl]; omega
 go_enter Try.func74, Try.ntmps74
 go_wp2_with fail
 refine (isWord_any (Wd.mk' h1 h2 hn) _).mono ?_
 rintro e w1 ⟨rfl, hb1⟩
 have hb1' := below_step (w := w) (by go_grown) hb1
 have hs1 := hb1'.size
 have KF1 : W3 w1 w.heap.size W n <| F3 w1 w.heap.size <| S3 w1 (w.heap.size + 1) <| F3 w1 (w.heap.size + 1) <| True := (by refine k3 hb1 ?_ ?_ ?_ <| f3 hb1 ?_ ?_ <| s3 hb1 ?_ ?_ ?_ <| f3 hb1 ?_ ?_ <| trivial <;> (first | (simp [go_sem]; done))); have KF1z0 := zT KF1; have KF1z1 := zT KF1.2.2.2.2
 clear hb1
 go_wp2_with fail
 go_loopw [23] (fun i wr => ∃ j : Nat, j + 1 ≤ k ∧ i = .int .i64 j ∧ (wr.cell? ⟨w.heap.size, 0, none⟩ = some (.int .i64 W) ∧ wr.cell? ⟨w.heap.size, 1, none⟩ = some (.int .u64 (LO n)) ∧ wr.cell? ⟨w.heap.size, 2, none⟩ = some (.int .u64 (HI n))) ∧ (wr.cell? ⟨w.heap.size + 1, 0, none⟩ = some (cv wr ⟨w.heap.size + 1, 0, none⟩) ∧ wr.cell? ⟨w.heap.size + 1, 1, none⟩ = some (cv wr ⟨w.heap.size + 1, 1, none⟩) ∧ wr.cell? ⟨w.heap.size + 1, 2, none⟩ = some (cv wr ⟨w.heap.size + 1, 2, none⟩)) ∧ (wr.cell? ⟨w1.heap.size, 0, none⟩ = some (.int .i64 ((wk W (j + 1) : Nat) : Int)) ∧ wr.cell? ⟨w1.heap.size, 1, none⟩ = some (.int .u64 (LO (rep W n (j + 1)))) ∧ wr.cell? ⟨w1.heap.size, 2, none⟩ = some (.int .u64 (HI (rep W n (j + 1))))) ∧ (∀ o, wr.frozen? ⟨w.heap.size + 1, o, none⟩ = false) ∧ (∀ o, wr.frozen? ⟨w1.heap.size, o, none⟩ = false) ∧ Below w.heap.size w wr) (fun i _ => k - (intOf i).toNat)
 case atStart =>
  have e1 : rep W n 1 = n := by simp [rep, cat]
  have e2 : wk W 1 = W := Nat.mul_one W
  refine ⟨0, by omega, rfl, ⟨?_, ?_, ?_⟩, ⟨?_, ?_, ?_⟩, ⟨?_, ?_, ?_⟩, ?_, ?_, ?_⟩
  all_goals first | (simp [go_sem, KF1, KF1z0, KF1z1, e1, e2]; done) | (refine cv_some ?_; simp [go_sem, KF1, KF1z0, KF1z1]; done) | (intro j; simp [go_sem, KF1, KF1z0, KF1z1, frozen?_alloc_cells]; done) | go_grown
 case round =>
  obtain ⟨j, hj, rfl, ha, hr, hc, hf1, hf2, hbl⟩ := hrel
  have KF0 := And.intro ha (And.intro hr (And.intro hc (And.intro hf1 hf2)))
  clear ha hr hc hf1 hf2
  have hlt0 := rep_lt hn (j + 1)
  have hWj : W * (j + 1) + W ≤ 128 ∨ ¬ (j + 1 < k) := by
   by_cases h : j + 1 < k
   ·left
    have h3 : W * (j + 1 + 1) ≤ W * k := Nat.mul_le_mul_left W h
    rw [Nat.mul_succ] at h3
    omega
   ·right; exact h
  by_cases hlt : j + 1 < k
  ·have h5 : W * (j + 1) + W ≤ 128 := by rcases hWj with h | h <;> omega
   have h6 : 1 ≤ W * (j + 1) := Nat.mul_pos h1 (by omega)
   have h7 : W * (j + 1) ≤ 128 := by omega
   have HR : Hid (cat (rep W n (j + 1)) W n = rep W n (j + 2)) := rfl
   have HW : Hid (((wk W (j + 1) : Nat) : Int) + W = ((wk W (j + 2) : Nat) : Int)) := by unfold Hid wk; rw [Nat.mul_succ W (j + 1)]; omega
   have h6 : 1 ≤ wk W (j + 1) := h6
   have h7 : wk W (j + 1) ≤ 128 := h7
   have h5 : wk W (j + 1) + W ≤ 128 := h5
   have hlt0 : rep W n (j + 1) < 2 ^ wk W (j + 1) := hlt0
   clear hWj
   generalize rep W n (j + 1) = A at *
   generalize wk W (j + 1) = V at *
   go_wp2_with fail
   refine (above_any (W := V) (V := W) (Wd.mk' h6 h7 hlt0) (Wd.mk' h1 h2 hn) h5 _).mono ?_
   rintro e w2 ⟨rfl, hb2⟩
   have hb2' := below_step (w := w) (by go_grown) hb2
   have hs2 := hb2'.size
   have KF2 : W3 w2 w.heap.size W n <| S3 w2 (w.heap.size + 1) <| F3 w2 (w.heap.size + 1) <| W3 w2 w1.heap.size V A <| F3 w2 w1.heap.size <| True := (by refine k3 hb2 ?_ ?_ ?_ <| s3 hb2 ?_ ?_ ?_ <| f3 hb2 ?_ ?_ <| k3 hb2 ?_ ?_ ?_ <| f3 hb2 ?_ ?_ <| trivial <;> (first | (simp [go_sem]; done) | (simp [go_sem, KF0]; done) | (simp [go_sem, KF0, World.cell?_alloc_some, frozen?_alloc_cells]; done))); have KF2z0 := zT KF2; have KF2z1 := zT KF2.2.2.2; have KF2z2 := zT KF2.2.2.2.2.2.2.2
   clear hb2 KF0
   go_wp2_with fail
   have KFE := And.intro KF2 (And.intro HR.out HW.out)
   refine ⟨⟨j + 1, by omega, by go_num, ⟨?_, ?_, ?_⟩, ⟨?_, ?_, ?_⟩, ⟨?_, ?_, ?_⟩, ?_, ?_, ?_⟩, by simp [intOf]; omega⟩
   all_goals first | (simp [go_sem, KFE]; done) | (refine cv_some ?_; simp [go_sem, KFE]; done) | (intro j; simp [go_sem, KFE]; done) | go_grown
  ·obtain rfl : j + 1 = k := by omega
   have hlt2 : ¬ ((j : Int) < (j : Int) + 1 - 1) := by omega
   go_wp2_with fail
   refine bodyPost_ret (v := .tuple #[.agg #[.int .i64 ((wk W (j + 1) : Nat) : Int), .int .u64 (LO (rep W n (j + 1))), .int .u64 (HI (rep W n (j + 1)))], .int .i64 0]) (by simp [results, Try.results74, go_sem, KF0]) rfl ?_
   exact ⟨rfl, by go_grown⟩
open Go.RowKit
def sdiv (W n m : Nat) : Nat := if n.testBit (W - 1) != m.testBit (W - 1) then neg W (udiv W (wsign W n n) (wsign W m m)) else udiv W (wsign W n n) (wsign W m m)
def srem (W n m : Nat) : Nat := wsign W n (urem (wsign W n n) (wsign W m m))
def smod (W n m : Nat) : Nat := if urem (wsign W n n) (wsign W m m) ≠ 0 ∧ (n.testBit (W - 1) != m.testBit (W - 1)) = true then (wsign W n (urem (wsign W n n) (wsign W m m)) + m) % 2 ^ W else wsign W n (urem (wsign W n n) (wsign W m m))
end Go.Proofs.Ytedldoobmmhloaa
namespace Go.Proofs.Ytedldoobmmhloaa
set_option maxHeartbeats 12800000
set_option maxRecDepth 100000
set_option linter.unusedSimpArgs false
set_option linter.unusedVariables false
open Go Go.RowKit
structure SF (w0 : World) (B : Nat) (own : List (Nat × List Value)) (pend : List (Nat × Nat × List Value)) (fl : List (Nat × Nat × List Value)) (fz : List Nat) (g : Nat → Nat) (L : Nat → Bool) (x : World) : Prop where
 ss : SS w0 B own pend g L x
 soft : ∀ b ∈ fz, b < B ∧ ∀ o, x.frozen? ⟨b, o, none⟩ = false
 room : ∀ f ∈ fl, w0.heap.size ≤ f.2.1 ∧ f.2.1 < B ∧ (∀ k, k < f.2.2.length → (x.cell? ⟨f.2.1, k, none⟩).isSome = true)
 full : ∀ f ∈ fl, L f.1 = true → At x f.2.1 f.2.2
 ne : ∀ f ∈ fl, ∀ p ∈ own, p.1 ≠ f.2.1
variable {w0 x x' : World} {B i : Nat} {own : List (Nat × List Value)} {pend fl : List (Nat × Nat × List Value)} {fz : List Nat} {g : Nat → Nat} {L : Nat → Bool}
theorem SF.ext (h : SF w0 B own pend fl fz g L x) (hx : Below x.heap.size x x') (hi : (pend.all fun q => q.1 != i && q.2.1 != i) = true) (hf : (fl.all fun f => f.1 != i) = true) : SF w0 B own pend fl fz g (updB L i) x' := by
 have hf' : ∀ f ∈ fl, f.1 ≠ i := fun f h => by simpa using List.all_eq_true.1 hf f h
 have hB := h.ss.size
 refine ⟨h.ss.ext hx hi, fun b hb => ⟨(h.soft b hb).1, fun o => ?_⟩, fun f hm => ⟨(h.room f hm).1, (h.room f hm).2.1, fun k hk => ?_⟩, fun f hm hL => ?_, h.ne⟩
 ·have := (h.soft b hb).1
  rw [hx.frozen (p := ⟨b, o, none⟩) (by simp; omega)]; exact (h.soft b hb).2 o
 ·have := (h.room f hm).2.1
  rw [hx.cell (p := ⟨f.2.1, k, none⟩) (by simp; omega)]; exact (h.room f hm).2.2 k hk
 ·rw [updB_ne (hf' f hm)] at hL
  have := (h.room f hm).2.1
  exact (h.full f hm hL).below (by omega) hx
theorem SF.go {al : List Nat} {K : Act → World → Prop} {a : Act} {d : Option Tmp} {v : (Nat → Nat) → Value} (h : SF w0 B own pend fl fz g L x) (hk : Shut (∀ (g' : Nat → Nat) (w' : World), (∀ j, (j ≠ i ∨ al.contains i = false) → g' j = g j) → SF w0 B own pend fl fz g' (updB L i) w' → K (a.put d (v g')) w')) (hi : (pend.all fun q => q.1 != i && q.2.1 != i) = true) (hf : (fl.all fun f => f.1 != i) = true) : K (a.put d (v g)) x :=
 hk.out g x (fun _ _ => rfl) (h.ext (Below.refl _ _) hi hf)
theorem SF.on {al : List Nat} {K : Act → World → Prop} {a : Act} {d : Option Tmp} {v : (Nat → Nat) → Value} (h : SF w0 B own pend fl fz g L x) (hk : Shut (∀ (g' : Nat → Nat) (w' : World), (∀ j, (j ≠ i ∨ al.contains i = false) → g' j = g j) → SF w0 B own pend fl fz g' (updB L i) w' → K (a.put d (v g')) w')) (hx : Below x.heap.size x x') (hi : (pend.all fun q => q.1 != i && q.2.1 != i) = true) (hf : (fl.all fun f => f.1 != i) = true) : K (a.put d (v g)) x' :=
 hk.out g x' (fun _ _ => rfl) (h.ext hx hi hf)
theorem SF.alloc {c : Array Value} {ty : TypeId} (h : SF w0 B own pend fl fz g L x) (hL : L i = false) (hi : (pend.all fun q => q.2.1 != i && decide (q.2.2.length ≤ c.size)) = true) (hf : (fl.all fun f => f.1 != i) = true) :
  SF w0 B own pend fl fz (updG g i x.heap.size) (updB L i) (x.alloc (.cells c ty)) := by
 have hx : Below x.heap.size x (x.alloc (.cells c ty)) := (Below.refl _ _).alloc (Nat.le_refl _) _
 have hf' : ∀ f ∈ fl, f.1 ≠ i := fun f h => by simpa using List.all_eq_true.1 hf f h
 have hB := h.ss.size
 refine ⟨h.ss.alloc hL hi, fun b hb => ⟨(h.soft b hb).1, fun o => ?_⟩, fun f hm => ⟨(h.room f hm).1, (h.room f hm).2.1, fun k hk => ?_⟩, fun f hm hL => ?_, h.ne⟩
 ·have := (h.soft b hb).1
  rw [hx.frozen (p := ⟨b, o, none⟩) (by simp; omega)]; exact (h.soft b hb).2 o
 ·have := (h.room f hm).2.1
  rw [hx.cell (p := ⟨f.2.1, k, none⟩) (by simp; omega)]; exact (h.room f hm).2.2 k hk
 ·rw [updB_ne (hf' f hm)] at hL
  have := (h.room f hm).2.1
  exact (h.full f hm hL).below (by omega) hx
theorem SF.store {k : Nat} {cs : List Value} (h : SF w0 B own pend fl fz g L x) (hL : L k = true) (hq : (k, i, cs) ∈ pend) (hi : (pend.all fun q => q.1 != i && (q.2.1 != i || q.1 == k)) = true)
  (hone : ∀ q ∈ pend, q.1 = k → q.2.2 = cs) (hf : (fl.all fun f => f.1 != i) = true) : SF w0 B own pend fl fz g (updB L i) (x.setCells (g k) 0 cs) := by
 have hf' : ∀ f ∈ fl, f.1 ≠ i := fun f h => by simpa using List.all_eq_true.1 hf f h
 have m1 := (h.ss.made _ hq hL).1
 simp only at m1
 have keep : ∀ b k', b ≠ g k → (x.setCells (g k) 0 cs).cell? ⟨b, k', none⟩ = x.cell? ⟨b, k', none⟩ := fun b k' hne =>
  World.cell?_setCells_out _ _ _ _ _ (fun e => absurd e hne)
 refine ⟨h.ss.store hL hq hi hone, fun b hb => ⟨(h.soft b hb).1, fun o => by rw [World.frozen?_setCells]; exact (h.soft b hb).2 o⟩, fun f hm => ⟨(h.room f hm).1, (h.room f hm).2.1, fun j hj => ?_⟩, fun f hm hLf => ?_, h.ne⟩
 ·have := (h.room f hm).2.1
  rw [keep _ _ (by omega)]; exact (h.room f hm).2.2 j hj
 ·rw [updB_ne (hf' f hm)] at hLf
  have := (h.room f hm).2.1
  exact fun j v hj => by rw [keep _ _ (by omega)]; exact h.full f hm hLf j v hj
theorem SF.fill {b : Nat} {cs : List Value} (h : SF w0 B own pend fl fz g L x) (hq : (i, b, cs) ∈ fl) (hi : (pend.all fun q => q.1 != i && q.2.1 != i) = true)
  (hone : ∀ f ∈ fl, (f.1 = i ∨ f.2.1 = b) → f = (i, b, cs)) : SF w0 B own pend fl fz g (updB L i) (x.setCells b 0 cs) := by
 have hi' : ∀ q ∈ pend, q.1 ≠ i ∧ q.2.1 ≠ i := fun q hq => by simpa using List.all_eq_true.1 hi q hq
 obtain ⟨b0, bB, hc⟩ := h.room _ hq
 simp only at b0 bB hc
 have keep : ∀ b' k', b' ≠ b → (x.setCells b 0 cs).cell? ⟨b', k', none⟩ = x.cell? ⟨b', k', none⟩ := fun b' k' hne =>
  World.cell?_setCells_out _ _ _ _ _ (fun e => absurd e hne)
 have hfill : At (x.setCells b 0 cs) b cs := fun j v hj => by
  have hjl : j < cs.length := (List.getElem?_eq_some_iff.1 hj).1
  have := World.cell?_setCells_in b cs 0 x (fun j hj => by simpa using hc j hj) j hjl
  rw [Nat.zero_add] at this
  rw [this, ← hj]; simp [hjl]
 refine ⟨⟨setCells_below _ _ _ h.ss.below b0, h.ss.le, by rw [setCells_size]; exact h.ss.size, fun p hp => ?_, fun q hq' hL => ?_, fun q hq' hL => ?_, fun q hq' r hr hne hL hL' => ?_⟩, fun b' hb => ⟨(h.soft b' hb).1, fun o => by rw [World.frozen?_setCells]; exact (h.soft b' hb).2 o⟩, fun f hm => ⟨(h.room f hm).1, (h.room f hm).2.1, fun j hj => ?_⟩, fun f hm hLf => ?_, h.ne⟩
 ·obtain ⟨h1, h2⟩ := h.ss.own p hp
  have := h.ne _ hq p hp
  exact ⟨h1, fun j v hj => by rw [keep _ _ this]; exact h2 j v hj⟩
 ·rw [updB_ne (hi' q hq').1] at hL
  obtain ⟨h1, h2, h3, h4⟩ := h.ss.made q hq' hL
  exact ⟨h1, by rw [setCells_size]; exact h2, fun o => by rw [World.frozen?_setCells]; exact h3 o, fun j hj => by rw [keep _ _ (by omega)]; exact h4 j hj⟩
 ·rw [updB_ne (hi' q hq').2] at hL
  obtain ⟨h1, h2⟩ := h.ss.laid q hq' hL
  have := (h.ss.made q hq' h1).1
  exact ⟨by rw [updB_ne (hi' q hq').1]; exact h1, fun j v hj => by rw [keep _ _ (by omega)]; exact h2 j v hj⟩
 ·rw [updB_ne (hi' q hq').1] at hL
  rw [updB_ne (hi' r hr).1] at hL'
  exact h.ss.apart q hq' r hr hne hL hL'
 ·by_cases e : f.2.1 = b
  ·have := hone f hm (Or.inr e)
   subst this
   simp only at hj ⊢
   rw [hfill j cs[j] (by simp [hj])]; rfl
  ·rw [keep _ _ e]; exact (h.room f hm).2.2 j hj
 ·by_cases e : f.1 = i
  ·have := hone f hm (Or.inl e)
   subst this
   exact hfill
  ·rw [updB_ne e] at hLf
   have hb : f.2.1 ≠ b := fun e2 => by
    have := hone f hm (Or.inr e2)
    subst this; exact e rfl
   exact fun j v hj => by rw [keep _ _ hb]; exact h.full f hm hLf j v hj
theorem SF.start (hb : Below w0.heap.size w0 x) (h : ∀ p ∈ own, At x p.1 p.2 ∧ p.2 ≠ []) (hz : ∀ b ∈ fz, b < x.heap.size ∧ ∀ o, x.frozen? ⟨b, o, none⟩ = false)
  (hc : ∀ f ∈ fl, w0.heap.size ≤ f.2.1 ∧ f.2.1 < x.heap.size ∧ (∀ k, k < f.2.2.length → (x.cell? ⟨f.2.1, k, none⟩).isSome = true)) (hn : ∀ f ∈ fl, ∀ p ∈ own, p.1 ≠ f.2.1) :
  SF w0 x.heap.size own pend fl fz g (fun _ => false) x.drew :=
 ⟨SS.start hb h, hz, hc, fun _ _ h => (by cases h), hn⟩
end Go.Proofs.Ytedldoobmmhloaa
