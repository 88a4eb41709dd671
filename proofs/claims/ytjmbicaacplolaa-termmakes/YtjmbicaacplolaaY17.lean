/- Contracts (terms): a node is made, whatever it is; two nodes held against one another. -/
import Derived.Test.YtjmbicaacplolaaY14
import Derived.Test.YtjmbicaacplolaaY15
import Derived.Test.YtjmbicaacplolaaY16
namespace Go.Proofs.Ytjmbicaacplolaa
open Go.RowKit
set_option linter.unusedSimpArgs false
set_option linter.unusedVariables false

/-- All numbers of a node are in their ranges. -/
structure Ok (n : Nd) : Prop where
  fi : Fi n
  op : w64 n.op
  s : w64 n.s
  a : w64 n.a
  b : w64 n.b
  c : w64 n.c
  p : w64 n.p
  q : w64 n.q
  w : w64 n.w

/-- What Make answers: the number, the error, the nodes then. -/
inductive Mkd (mo : Nat) (ns : List Nd) (n : Nd) : Int → Int → List Nd → Prop
  | err {s er : Int} : srtOf ns n = (s, er) → ¬ er = 0 → Mkd mo ns n 0 er ns
  | old {s : Int} {i : Nat} : srtOf ns n = (s, 0) → ns[i]? = some (n.wi s) → Mkd mo ns n ((i : Int) + 1) 0 ns
  | full {s : Int} : srtOf ns n = (s, 0) → n.wi s ∉ ns → ns.length = mo → Mkd mo ns n 0 33 ns
  | new {s : Int} : srtOf ns n = (s, 0) → n.wi s ∉ ns → ns.length < mo → Mkd mo ns n ((ns.length : Int) + 1) 0 (ns ++ [n.wi s])
theorem mkd_any (mo : Nat) (ns : List Nd) (n : Nd) (h : ns.length ≤ mo) : ∃ id er ns', Mkd mo ns n id er ns' := by
  obtain ⟨s, hs⟩ : ∃ s, s = (srtOf ns n).1 := ⟨_, rfl⟩
  obtain ⟨er, he⟩ : ∃ er, er = (srtOf ns n).2 := ⟨_, rfl⟩
  have h0 : srtOf ns n = (s, er) := by rw [hs, he]
  by_cases hz : er = 0
  · subst hz
    by_cases hm : n.wi s ∈ ns
    · obtain ⟨i, hi, e⟩ := List.getElem_of_mem hm
      exact ⟨_, _, _, .old h0 (by rw [List.getElem?_eq_getElem hi, e])⟩
    · by_cases hl : ns.length = mo
      · exact ⟨_, _, _, .full h0 hm hl⟩
      · exact ⟨_, _, _, .new h0 hm (by omega)⟩
  · exact ⟨_, _, _, .err h0 hz⟩
theorem Chg.of {w w' : World} {g mi mv : Nat} {v : Value} (h : Below w.heap.size w w') : Chg w w' g mi mv v := ⟨h.os, h.tape, h.output, h.size, fun k hk _ _ _ _ => h.block k hk⟩
theorem key_of {ns : List Nd} {n : Nd} {s : Int} (hv : Inv ns) (ho : Ok n) (hs : srtOf ns n = (s, 0)) (hno : n.wi s ∉ ns) : ∃ kl, keyOf Try.prog 36 (n.wi s).val = some kl := by
  have h := (inv_snoc hv hs hno).sorts (n.wi s) (by simp)
  have hs' : w64 s := by
    have h1 : 0 ≤ s ∧ s ≤ 128 := h
    unfold w64; omega
  exact kn_of (n := n.wi s) ho.op hs' ho.a ho.b ho.c ho.p ho.q ho.w ho.fi.l0 ho.fi.l1 ho.fi.h0 ho.fi.h1 ho.fi.nm
theorem mk_any {w : World} {B g mi mv mo : Nat} {v : Value} {ns ns' : List Nd} {n : Nd} {id er : Int} (h : Gr w B g mi mv v mo ns) (ho : Ok n) (hM : Mkd mo ns n id er ns') (hBw : B ≤ w.heap.size) :
    Calls Try.prog 12 #[.pointer (some ⟨g, 0, none⟩), .agg #[.int .i64 n.op, .int .i64 n.s, .int .i64 n.a, .int .i64 n.b, .int .i64 n.c, .int .i64 n.p, .int .i64 n.q, .int .i64 n.w, .int .u64 n.lo, .int .u64 n.hi, .string n.nm]] w fun e w' => e = .returned (.tuple #[.int .i64 id, .int .i64 er]) ∧ ∃ v', Gr w' B g mi mv v' mo ns' ∧ Chg w w' g mi mv v ∧ (v'.ownBlock = v.ownBlock ∨ ∃ b, v'.ownBlock = some b ∧ w.heap.size ≤ b) := by
  cases hM with
  | err hs he =>
    refine (mk_err h ho.fi hs he).mono ?_
    rintro e w' ⟨he, hb⟩
    exact ⟨he, v, h.below hb, Chg.of hb, Or.inl rfl⟩
  | old hs hi =>
    refine (mk_old h ho.fi hs hi).mono ?_
    rintro e w' ⟨he, hb⟩
    exact ⟨he, v, h.below hb, Chg.of hb, Or.inl rfl⟩
  | full hs hno hl =>
    obtain ⟨kl, hk⟩ := key_of h.inv ho hs hno
    refine (mk_full h ho.fi hs hno hk hl).mono ?_
    rintro e w' ⟨he, hb⟩
    exact ⟨he, v, h.below hb, Chg.of hb, Or.inl rfl⟩
  | new hs hno hl =>
    obtain ⟨kl, hk⟩ := key_of h.inv ho hs hno
    exact mk_new h ho.fi hs hno hk hl hBw

/-- A node that was made has this number (0: none). -/
def Got (ns : List Nd) (n : Nd) (x : Int) : Prop := x = 0 ∨ ∃ (s : Int) (i : Nat), x = (i : Int) + 1 ∧ ns[i]? = some (n.wi s) ∧ srtOf ns n = (s, 0)
theorem Got.more {mo : Nat} {ns ns' : List Nd} {n m : Nd} {x id er : Int} (h : Got ns n x) (hM : Mkd mo ns m id er ns') (hv : Inv ns') : Got ns' n x := by
  rcases h with rfl | ⟨s, i, hx, hi, hs⟩
  · exact Or.inl rfl
  · cases hM with
    | err => exact Or.inr ⟨s, i, hx, hi, hs⟩
    | old => exact Or.inr ⟨s, i, hx, hi, hs⟩
    | full => exact Or.inr ⟨s, i, hx, hi, hs⟩
    | new hs' hno hl =>
      have hlt : i < ns.length := (List.getElem?_eq_some_iff.1 hi).1
      rename_i s'
      have hi' := (List.getElem?_append_left (l₂ := [m.wi s']) hlt).trans hi
      exact Or.inr ⟨s, i, hx, hi', srt_stays hs hv (List.mem_of_getElem? hi')⟩
theorem Got.made {mo : Nat} {ns ns' : List Nd} {n : Nd} {id er : Int} (hM : Mkd mo ns n id er ns') (hv : Inv ns') : Got ns' n id := by
  cases hM with
  | err => exact Or.inl rfl
  | old hs hi => exact Or.inr ⟨_, _, rfl, hi, hs⟩
  | full => exact Or.inl rfl
  | new hs hno hl =>
    have hi : ∀ s, (ns ++ [n.wi s])[ns.length]? = some (n.wi s) := fun s => by simp
    exact Or.inr ⟨_, ns.length, rfl, hi _, srt_stays hs hv (List.mem_of_getElem? (hi _))⟩
theorem Mkd.no {mo : Nat} {ns ns' : List Nd} {n : Nd} {id er : Int} (hM : Mkd mo ns n id er ns') (h : ¬ er = 0) : id = 0 ∧ ns' = ns := by
  cases hM with
  | err => exact ⟨rfl, rfl⟩
  | old => exact absurd rfl h
  | full => exact ⟨rfl, rfl⟩
  | new => exact absurd rfl h

/-- Two nodes are unlike. -/
theorem ne_nd {n m : Nd} (h : n ≠ m) (w : World) : (binOp .eql 36 (.agg #[.int .i64 n.op, .int .i64 n.s, .int .i64 n.a, .int .i64 n.b, .int .i64 n.c, .int .i64 n.p, .int .i64 n.q, .int .i64 n.w, .int .u64 n.lo, .int .u64 n.hi, .string n.nm]) (.agg #[.int .i64 m.op, .int .i64 m.s, .int .i64 m.a, .int .i64 m.b, .int .i64 m.c, .int .i64 m.p, .int .i64 m.q, .int .i64 m.w, .int .u64 m.lo, .int .u64 m.hi, .string m.nm])).run Try.prog w = .ok (.bool false) w := by
  by_cases h1 : n.op = m.op
  · by_cases h2 : n.s = m.s
    · by_cases h3 : n.a = m.a
      · by_cases h4 : n.b = m.b
        · by_cases h5 : n.c = m.c
          · by_cases h6 : n.p = m.p
            · by_cases h7 : n.q = m.q
              · by_cases h8 : n.w = m.w
                · by_cases h9 : n.lo = m.lo
                  · by_cases h10 : n.hi = m.hi
                    · by_cases h11 : n.nm = m.nm
                      · exact absurd (by cases n; cases m; simp_all) h
                      · have h12 : ¬ n.nm.data = m.nm.data := fun e => h11 (Go.WideShapes.bytes_inj (by rw [e]))
                        simp [go_sem, h1, h2, h3, h4, h5, h6, h7, h8, h9, h10, ByteArray.toList_eq, h12]
                    · simp [go_sem, h1, h2, h3, h4, h5, h6, h7, h8, h9, h10]
                  · simp [go_sem, h1, h2, h3, h4, h5, h6, h7, h8, h9]
                · simp [go_sem, h1, h2, h3, h4, h5, h6, h7, h8]
              · simp [go_sem, h1, h2, h3, h4, h5, h6, h7]
            · simp [go_sem, h1, h2, h3, h4, h5, h6]
          · simp [go_sem, h1, h2, h3, h4, h5]
        · simp [go_sem, h1, h2, h3, h4]
      · simp [go_sem, h1, h2, h3]
    · simp [go_sem, h1, h2]
  · simp [go_sem, h1]
theorem same_nd (n : Nd) (w : World) : (binOp .eql 36 (.agg #[.int .i64 n.op, .int .i64 n.s, .int .i64 n.a, .int .i64 n.b, .int .i64 n.c, .int .i64 n.p, .int .i64 n.q, .int .i64 n.w, .int .u64 n.lo, .int .u64 n.hi, .string n.nm]) (.agg #[.int .i64 n.op, .int .i64 n.s, .int .i64 n.a, .int .i64 n.b, .int .i64 n.c, .int .i64 n.p, .int .i64 n.q, .int .i64 n.w, .int .u64 n.lo, .int .u64 n.hi, .string n.nm])).run Try.prog w = .ok (.bool true) w := by simp [go_sem]

/-- The slice at a holds the nodes l. -/
def La (w : World) (a : Option Addr) (l : List Nd) : Prop := l = [] ∨ ∃ g o, a = some ⟨g, o, none⟩ ∧ g < w.heap.size ∧ Ln w g o l
theorem La.below {w wx : World} {a : Option Addr} {l : List Nd} (h : La w a l) (hb : Below w.heap.size w wx) : La wx a l := by
  rcases h with h | ⟨g, o, ha, hg, h⟩
  · exact Or.inl h
  · exact Or.inr ⟨g, o, ha, Nat.lt_of_lt_of_le hg hb.size, fun j n hj t u hu => by rw [hb.cell (p := ⟨g, o + j * 11 + t, none⟩) hg]; exact h j n hj t u hu⟩
theorem light_a {w : World} {a : Option Addr} {c : Nat} {l : List Nd} (h : La w a l) (hl : l.length ≤ maxLen) :
    Calls Try.prog 9 #[.slice a l.length c] w fun e w' => e = .returned (.bool (litB l)) ∧ w' = w := by
  rcases h with rfl | ⟨g, o, rfl, -, h⟩
  · show Calls Try.prog 9 #[.slice a 0 c] w fun e w' => e = .returned (.bool true) ∧ w' = w
    go_enter Try.func9, Try.ntmps9
    go_wp2_with fail
    refine wp_loop_rounds 1 ?_
    rw [rounds_succ]
    go_wp2_with fail
    go_ret
    exact ⟨rfl, rfl⟩
  · exact light_any h hl
end Go.Proofs.Ytjmbicaacplolaa
