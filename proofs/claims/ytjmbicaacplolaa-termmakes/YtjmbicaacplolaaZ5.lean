/- Contracts (the document's graph): right words; the world while a node is made. -/
import Derived.Test.YtjmbicaacplolaaZ2
import Derived.Test.YtjmbicaacplolaaZ4
import Derived.Test.YtjmbicaacplolaaY17
import Derived.Test.YtjmbicaacplolaaY10
namespace Go.Proofs.Ytjmbicaacplolaa
open Go.RowKit
set_option linter.unusedSimpArgs false
set_option linter.unusedVariables false

theorem refright_all {A lo hi : Int} (l0 : 0 ≤ lo) (l1 : lo < 18446744073709551616) (h0 : 0 ≤ hi) (h1 : hi < 18446744073709551616) (w : World) :
    Calls Try.prog 31 #[.agg #[.int .i64 A, .int .u64 lo, .int .u64 hi]] w fun e w' => e = .returned (.bool (rgt A lo hi)) ∧ Below w.heap.size w w' := by
  obtain ⟨N, hN⟩ : ∃ N : Nat, N = (lo + 18446744073709551616 * hi).toNat := ⟨_, rfl⟩
  have hN2 : N < 2 ^ 128 := by omega
  have el : lo = LO N := by unfold LO; omega
  have eh : hi = HI N := by unfold HI; omega
  by_cases ho : A < 0 ∨ 128 < A
  · have e : rgt A lo hi = false := by unfold rgt; rcases ho with h | h <;> simp [show ¬ 0 ≤ A ∨ ¬ A ≤ 128 from by omega] <;> omega
    rw [e, el, eh]
    exact refright_out ho w
  · by_cases hz : A = 0
    · subst hz
      have e : rgt 0 lo hi = (decide (LO N ≤ 1) && (HI N == 0)) := by
        rw [← el, ← eh]
        have e1 : rgt 0 lo hi = ((decide (lo = 0) && decide (hi = 0)) || (decide (lo = 1) && decide (hi = 0))) := by simp [rgt]
        rw [e1]
        by_cases h2 : hi = 0
        · have : decide (lo ≤ 1) = (decide (lo = 0) || decide (lo = 1)) := by
            by_cases h3 : lo = 0
            · simp [h3]
            · by_cases h4 : lo = 1
              · simp [h4]
              · simp [h3, h4]; omega
          simp [h2, this]
        · simp [h2]
      rw [e, el, eh]
      exact refright_0 w
    · obtain ⟨W, rfl⟩ : ∃ W : Nat, A = W := ⟨A.toNat, by omega⟩
      have e : rgt (W : Int) lo hi = decide (N < 2 ^ W) := by
        unfold rgt
        rw [if_neg hz, show decide (0 ≤ (W : Int)) = true by simp, show decide ((W : Int) ≤ 128) = true by simp; omega, Int.toNat_natCast]
        simp only [Bool.true_and, decide_eq_decide]
        have e2 : ((2 : Int) ^ W) = ((2 ^ W : Nat) : Int) := by simp
        rw [e2]
        omega
      rw [e, el, eh]
      refine refright_w (by omega) (by omega) hN2 rfl ?_ w
      by_cases hlt : N < 2 ^ W
      · rw [show decide (N < 2 ^ W) = true by simp [hlt]]
        exact eqB_yes (Nat.mod_eq_of_lt hlt)
      · rw [show decide (N < 2 ^ W) = false by simp [hlt]]
        exact eqB_no (fun e => hlt (by rw [← e]; exact mod_lt_W _ _))

/-- How far the last statement but one of making has come. -/
structure RSt (w : World) (B gB : Nat) (v : Value) (mo : Nat) (ns : List Nd) (n : Nd) (g : Nat → Nat) (L : Nat → Bool) (x : World) : Prop where
  d7 : L 7 = true → L 4 = true ∧ L 6 = true
  d10 : L 10 = true → L 7 = true
  sz : w.heap.size ≤ x.heap.size
  os : x.os = w.os
  tape : x.tape = w.tape
  output : x.output = w.output
  kp : ∀ k, k < w.heap.size → (L 7 = true → some k ≠ v.ownBlock) → (L 10 = true → k ≠ gB) → x.heap[k]? = w.heap[k]?
  s6 : L 6 = true → L 7 = false → x.heap[g 6]? = some (.cells n.cs.toArray 36)
  r7 : L 7 = true → x.ownsRow B 36 11 (sl (ns.length + 1) (g 7)) (ns.length + 1) ((ns ++ [n]).flatMap Nd.cs) ∧ ((sl (ns.length + 1) (g 7)).ownBlock = v.ownBlock ∨ ∃ b, (sl (ns.length + 1) (g 7)).ownBlock = some b ∧ w.heap.size ≤ b)
  h10 : L 10 = true → x.heap[gB]? = some (.cells #[sl (ns.length + 1) (g 7), .int .i64 (mo : Int)] 41)

section
variable {w : World} {B gB mo : Nat} {v : Value} {ns : List Nd} {n : Nd} {g : Nat → Nat} {L : Nat → Bool} {x y : World} {i : Nat}
theorem RSt.old (h : RSt w B gB v mo ns n g L x) {b : Nat} {o : Obj} (hb : w.heap[b]? = some o) (hl : b < w.heap.size) (h1 : some b ≠ v.ownBlock) (h2 : b ≠ gB) : x.heap[b]? = some o := (h.kp b hl (fun _ => h1) (fun _ => h2)).trans hb
theorem RSt.go (h : RSt w B gB v mo ns n g L x) (hi : (i != 6 && i != 7 && i != 10) = true) : RSt w B gB v mo ns n g (updB L i) x := by
  simp only [Bool.and_eq_true, bne_iff_ne, ne_eq] at hi
  have u6 := updB_ne (L := L) (i := i) (k := 6) (by omega)
  have u7 := updB_ne (L := L) (i := i) (k := 7) (by omega)
  have u10 := updB_ne (L := L) (i := i) (k := 10) (by omega)
  refine ⟨?_, by rw [u7, u10]; exact h.d10, h.sz, h.os, h.tape, h.output, by rw [u7, u10]; exact h.kp, by rw [u6, u7]; exact h.s6, by rw [u7]; exact h.r7, by rw [u10]; exact h.h10⟩
  rw [u6, u7]
  intro e
  refine ⟨?_, (h.d7 e).2⟩
  by_cases h4 : i = 4
  · subst h4; exact updB_eq
  · rw [updB_ne (L := L) (i := i) (k := 4) (by omega)]; exact (h.d7 e).1
theorem RSt.no10 (h : RSt w B gB v mo ns n g L x) (h7 : L 7 = false) : L 10 = false := by
  cases e : L 10
  · rfl
  · rw [h.d10 e] at h7; cases h7
theorem RSt.built (h : RSt w B gB v mo ns n g L x) (h6 : L 6 = false) : RSt w B gB v mo ns n (updG g 6 x.heap.size) (updB L 6) (x.alloc (.cells n.cs.toArray 36)) := by
  have h7 : L 7 = false := by
    cases e : L 7
    · rfl
    · rw [(h.d7 e).2] at h6; cases h6
  have h10 := h.no10 h7
  have u4 := updB_ne (L := L) (i := 6) (k := 4) (by decide)
  have u7 := updB_ne (L := L) (i := 6) (k := 7) (by decide)
  have u10 := updB_ne (L := L) (i := 6) (k := 10) (by decide)
  have hs := h.sz
  refine ⟨?_, ?_, by simp; omega, h.os, h.tape, h.output, ?_, ?_, ?_, ?_⟩
  · rw [u7, h7]; intro e; cases e
  · rw [u10, h10]; intro e; cases e
  · rw [u7, u10]; intro k hk a b; exact (heap_alloc_old _ _ (by omega)).trans (h.kp k hk a b)
  · intro _ _; rw [updG_eq]; exact heap_alloc_new _ _
  · rw [u7, h7]; intro e; cases e
  · rw [u10, h10]; intro e; cases e
theorem RSt.app {p : Nat} (h : RSt w B gB v mo ns n g L x) (hL4 : L 4 = true) (hL6 : L 6 = true) (hL7 : L 7 = false) (hbv : ∀ k, v.ownBlock = some k → k < w.heap.size)
    (hg : x.grownBy y v.ownBlock) (ho : y.ownsRow B 36 11 (sl (ns.length + 1) p) (ns.length + 1) ((ns ++ [n]).flatMap Nd.cs)) (hat : (sl (ns.length + 1) p).ownBlock = v.ownBlock ∨ (sl (ns.length + 1) p).ownBlock = some x.heap.size) :
    RSt w B gB v mo ns n (updG g 7 p) (updB L 7) y := by
  have h10 := h.no10 hL7
  have u4 := updB_ne (L := L) (i := 7) (k := 4) (by decide)
  have u6 := updB_ne (L := L) (i := 7) (k := 6) (by decide)
  have u10 := updB_ne (L := L) (i := 7) (k := 10) (by decide)
  have hs := h.sz
  refine ⟨?_, ?_, by have := hg.size; omega, hg.os.trans h.os, hg.tape.trans h.tape, hg.output.trans h.output, ?_, ?_, ?_, ?_⟩
  · intro _; rw [u4, u6]; exact ⟨hL4, hL6⟩
  · rw [u10, h10]; intro e; cases e
  · rw [u10]; intro k hk a b
    exact (hg.block k (by omega) (a updB_eq)).trans (h.kp k hk (fun e => by rw [hL7] at e; cases e) b)
  · intro _ e; rw [updB_eq] at e; cases e
  · intro _; rw [updG_eq]
    refine ⟨ho, ?_⟩
    rcases hat with e | e
    · exact Or.inl e
    · exact Or.inr ⟨_, e, hs⟩
  · rw [u10, h10]; intro e; cases e
theorem RSt.store (h : RSt w B gB v mo ns n g L x) (hL7 : L 7 = true) (hL10 : L 10 = false) (hgB : gB < w.heap.size) (hne : v.ownBlock ≠ some gB) (hhd : w.heap[gB]? = some (.cells #[v, .int .i64 (mo : Int)] 41)) :
    RSt w B gB v mo ns n g (updB L 10) (x.setCell ⟨gB, 0, none⟩ (sl (ns.length + 1) (g 7))) := by
  have u4 := updB_ne (L := L) (i := 10) (k := 4) (by decide)
  have u6 := updB_ne (L := L) (i := 10) (k := 6) (by decide)
  have u7 := updB_ne (L := L) (i := 10) (k := 7) (by decide)
  have hx : x.heap[gB]? = w.heap[gB]? := h.kp gB hgB (fun _ e => hne e.symm) (fun e => by rw [hL10] at e; cases e)
  have hr := h.r7 hL7
  have hne2 : (sl (ns.length + 1) (g 7)).ownBlock ≠ some gB := by
    rcases hr.2 with e | ⟨b, e, hb⟩
    · rw [e]; exact hne
    · rw [e]; intro q; cases q; omega
  refine ⟨by rw [u7, u4, u6]; exact h.d7, fun _ => by rw [u7]; exact hL7, by rw [World.size_setCell]; exact h.sz, h.os, h.tape, h.output, ?_, ?_, ?_, ?_⟩
  · rw [u7]; intro k hk a b
    have hk' := b updB_eq
    exact (heap_setCell_other _ _ _ _ (by show k ≠ gB; exact hk')).trans (h.kp k hk a (fun e => by rw [hL10] at e; cases e))
  · rw [u7, hL7]; intro _ e; cases e
  · intro _; rw [u7] at *; exact ⟨row_far hr.1 hne2, hr.2⟩
  · intro _
    rw [heap_setCell_same _ _ _ _ _ _ (hx.trans hhd)]; rfl
end

/-- What Make has turned. -/
structure RChg (w w' : World) (gB : Nat) (v : Value) : Prop where
  os : w'.os = w.os
  tape : w'.tape = w.tape
  output : w'.output = w.output
  size : w.heap.size ≤ w'.heap.size
  block : ∀ k, k < w.heap.size → k ≠ gB → some k ≠ v.ownBlock → w'.heap[k]? = w.heap[k]?
theorem RChg.of {w w' : World} {g : Nat} {v : Value} (h : Below w.heap.size w w') : RChg w w' g v := ⟨h.os, h.tape, h.output, h.size, fun k hk _ _ => h.block k hk⟩
theorem Rg.far {w : World} {B g mo : Nat} {v : Value} {ns : List Nd} (h : Rg w B g v mo ns) : v.ownBlock ≠ some g := by
  intro e
  rcases h.row.2 with ⟨rfl, _⟩ | ⟨r, cap, cur, rfl, _, hr, _⟩
  · cases e
  · cases e; rw [h.hd] at hr; cases hr
theorem rmk_end {w wU x : World} {B gB mo : Nat} {v : Value} {ns : List Nd} {n' : Nd} {g : Nat → Nat} (hG : Rg w B gB v mo ns) (hU : Below w.heap.size w wU) (hS : RSt wU B gB v mo ns n' g (fun k => decide (k < 11)) x) (hroom : ns.length < mo) :
    ∃ v', Rg x B gB v' mo (ns ++ [n']) ∧ RChg w x gB v ∧ (v'.ownBlock = v.ownBlock ∨ ∃ b, v'.ownBlock = some b ∧ w.heap.size ≤ b) := by
  have hr := hS.r7 rfl
  refine ⟨sl (ns.length + 1) (g 7), ⟨hS.h10 rfl, by rw [List.length_append, List.length_singleton]; exact hr.1, hG.bg, hG.most, by simp; omega⟩, ⟨hS.os.trans hU.os, hS.tape.trans hU.tape, hS.output.trans hU.output, Nat.le_trans hU.size hS.sz, fun k hk h1 h2 => (hS.kp k (Nat.lt_of_lt_of_le hk hU.size) (fun _ => h2) (fun _ => h1)).trans (hU.block k hk)⟩, ?_⟩
  rcases hr.2 with e | ⟨b, e, hb⟩
  · exact Or.inl e
  · exact Or.inr ⟨b, e, Nat.le_trans hU.size hb⟩

theorem Mkd.of_err {mo : Nat} {ns ns' : List Nd} {n : Nd} {id er s e : Int} (hM : Mkd mo ns n id er ns') (h : srtOf ns n = (s, e)) (he : ¬ e = 0) : id = 0 ∧ er = e ∧ ns = ns' := by
  cases hM with
  | err h' _ => rw [h] at h'; cases h'; exact ⟨rfl, rfl, rfl⟩
  | old h' _ => rw [h] at h'; cases h'; exact absurd rfl he
  | full h' _ _ => rw [h] at h'; cases h'; exact absurd rfl he
  | new h' _ _ => rw [h] at h'; cases h'; exact absurd rfl he
theorem Mkd.of_ok {mo : Nat} {ns ns' : List Nd} {n : Nd} {id er s : Int} (hM : Mkd mo ns n id er ns') (h : srtOf ns n = (s, 0)) :
    (∃ i : Nat, ns[i]? = some (n.wi s) ∧ id = (i : Int) + 1 ∧ er = 0 ∧ ns = ns') ∨ (n.wi s ∉ ns ∧ ((ns.length = mo ∧ id = 0 ∧ er = 33 ∧ ns = ns') ∨ (ns.length < mo ∧ id = (ns.length : Int) + 1 ∧ er = 0 ∧ ns' = ns ++ [n.wi s]))) := by
  cases hM with
  | err h' h0 => rw [h] at h'; cases h'; exact absurd rfl h0
  | old h' hi => rw [h] at h'; cases h'; exact Or.inl ⟨_, hi, rfl, rfl, rfl⟩
  | full h' hn hl => rw [h] at h'; cases h'; exact Or.inr ⟨hn, Or.inl ⟨hl, rfl, rfl, rfl⟩⟩
  | new h' hn hl => rw [h] at h'; cases h'; exact Or.inr ⟨hn, Or.inr ⟨hl, rfl, rfl, rfl⟩⟩

/-- The node's box, its operands behind it, in a world that has turned nothing old. -/
structure Bx (w wr : World) (n : Nd) : Prop where
  box : wr.heap[w.heap.size]? = some (.cells n.cs.toArray 36)
  kid : ∀ q, q < 3 → wr.cell? ⟨w.heap.size + 1, q, none⟩ = some (.int .i64 (opn n q))
  size : w.heap.size + 2 ≤ wr.heap.size
  bel : Below w.heap.size w wr
theorem Bx.low {w wr wy : World} {n : Nd} (h : Bx w wr n) (hb : Below (w.heap.size + 2) wr wy) : Bx w wy n :=
  ⟨(hb.block _ (by omega)).trans h.box, fun q hq => by rw [hb.cell (p := ⟨w.heap.size + 1, q, none⟩) (by show w.heap.size + 1 < _; omega)]; exact h.kid q hq, Nat.le_trans h.size hb.size, h.bel.trans (hb.mono (by omega))⟩
theorem Bx.below {w wr wy : World} {n : Nd} (h : Bx w wr n) (hb : Below wr.heap.size wr wy) : Bx w wy n := h.low (hb.mono h.size)
theorem Bx.made (w : World) (n : Nd) : Bx w ((w.alloc (.cells #[.int .i64 n.op, .int .i64 n.s, .int .i64 n.a, .int .i64 n.b, .int .i64 n.c, .int .i64 n.p, .int .i64 n.q, .int .i64 n.w, .int .u64 n.lo, .int .u64 n.hi, .string n.nm] 36)).alloc (.cells #[.int .i64 n.a, .int .i64 n.b, .int .i64 n.c] 3)) n := by
  have h0 := heap_alloc_new w (.cells #[.int .i64 n.op, .int .i64 n.s, .int .i64 n.a, .int .i64 n.b, .int .i64 n.c, .int .i64 n.p, .int .i64 n.q, .int .i64 n.w, .int .u64 n.lo, .int .u64 n.hi, .string n.nm] 36)
  have h1 := heap_alloc_new (w.alloc (.cells #[.int .i64 n.op, .int .i64 n.s, .int .i64 n.a, .int .i64 n.b, .int .i64 n.c, .int .i64 n.p, .int .i64 n.q, .int .i64 n.w, .int .u64 n.lo, .int .u64 n.hi, .string n.nm] 36)) (.cells #[.int .i64 n.a, .int .i64 n.b, .int .i64 n.c] 3)
  rw [size_alloc'] at h1
  refine ⟨(heap_alloc_old _ _ (by simp)).trans h0, fun q hq => ?_, by simp, ((Below.refl _ _).alloc (Nat.le_refl _) _).alloc (by simp) _⟩
  have : q = 0 ∨ q = 1 ∨ q = 2 := by omega
  rcases this with rfl | rfl | rfl
  · exact cell_of h1 0 rfl
  · exact cell_of h1 1 rfl
  · exact cell_of h1 2 rfl
theorem Nd.wi_self (n : Nd) : n.wi n.s = n := rfl
theorem str_nil {b : ByteArray} (h : b.size = 0) : b.toList = [] := by
  have h1 := emp_eq b
  rw [h] at h1
  simpa using h1
theorem str_not {b : ByteArray} (h : ¬ b.size = 0) : ¬ b.toList = [] := by
  have h1 := emp_eq b
  rw [show (b.size == 0) = false by simp [h]] at h1
  intro e
  rw [e] at h1
  cases h1
theorem oss_none {ns : List Nd} {n : Nd} {K j : Nat} (hK : ari n.op = (K : Int)) (h3 : K ≤ 3) (hj : K ≤ j) : (oss ns n).take (j + 1) = (oss ns n).take j := by
  have := oss_len (ns := ns) hK h3
  rw [List.take_of_length_le (by omega), List.take_of_length_le (by omega)]
theorem oss_one {ns : List Nd} {n m : Nd} {j : Nat} (h : (oss ns n)[j]? = some m.s) : (oss ns n).take (j + 1) = (oss ns n).take j ++ [m.s] := by
  rw [List.take_add_one, h]; rfl
theorem prt_parts {N : Nat} {n : Nd} (hp : prt N n = true) : (∃ K : Nat, K ≤ 3 ∧ ari n.op = (K : Int) ∧ ∀ q : Nat, q < 3 → opB N (K : Int) (q : Int) (opn n q) = true) ∧ (n.op = 1 ∨ zB n.w n.lo n.hi = true) ∧ (n.op = 2 ∨ n.nm.size = 0) := by
  have h3 := ari_le n.op
  rw [prt_eq rfl] at hp
  simp only [Bool.and_eq_true, Bool.or_eq_true, decide_eq_true_eq, beq_iff_eq] at hp
  obtain ⟨⟨⟨⟨⟨h0, ha⟩, hb⟩, hc⟩, hz⟩, hn⟩ := hp
  refine ⟨⟨(ari n.op).toNat, by omega, by omega, fun q hq => ?_⟩, hz, hn⟩
  rw [Int.toNat_of_nonneg h0]
  have : q = 0 ∨ q = 1 ∨ q = 2 := by omega
  rcases this with rfl | rfl | rfl
  · exact ha
  · exact hb
  · exact hc
end Go.Proofs.Ytjmbicaacplolaa
