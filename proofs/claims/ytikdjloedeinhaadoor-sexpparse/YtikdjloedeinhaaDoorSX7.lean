/- Bracketed things in memory; the parser's lists that are open. -/
import Derived.Test.YtikdjloedeinhaaDoorSX6
import Derived.Maps.AppendAt
namespace Go.Proofs.YtikdjloedeinhaaDoor
open Go.RowKit
set_option linter.unusedSimpArgs false
set_option linter.unusedVariables false

/-- The slice v holds these things; the blocks of all of it are in D. -/
inductive Row (w : World) (D : Nat → Prop) : List Sx → Value → Prop
  | nil (a : Option Addr) (cap : Nat) : Row w D [] (.slice a 0 cap)
  | some (g o cap : Nat) (ks : List Sx) (U : Nat → Value) (hD : D g) (hm : ks.length ≤ maxLen)
      (hc : ∀ (j : Nat) (x : Sx), ks[j]? = .some x → w.cell? ⟨g, o + j * 3, none⟩ = .some (.string x.w) ∧ w.cell? ⟨g, o + j * 3 + 1, none⟩ = .some (.bool x.l) ∧ w.cell? ⟨g, o + j * 3 + 2, none⟩ = .some (U j))
      (hk : ∀ (j : Nat) (x : Sx), ks[j]? = .some x → Row w D x.ks (U j)) : Row w D ks (.slice (.some ⟨g, o, none⟩) ks.length cap)
theorem Row.keep {w w' : World} {D E : Nat → Prop} {ks : List Sx} {v : Value} (h : Row w D ks v) (hk : ∀ g, D g → w'.heap[g]? = w.heap[g]?) (hD : ∀ g, D g → E g) : Row w' E ks v := by
  induction h with
  | nil a cap => exact .nil a cap
  | some g o cap ks U hDg hm hc _ ih =>
    refine .some g o cap ks U (hD g hDg) hm (fun j x hx => ?_) ih
    obtain ⟨h1, h2, h3⟩ := hc j x hx
    have e : ∀ o, w'.cell? ⟨g, o, none⟩ = w.cell? ⟨g, o, none⟩ := fun o => World.cell?_of_block (hk g hDg)
    rw [e, e, e]; exact ⟨h1, h2, h3⟩
theorem row_len {w : World} {D : Nat → Prop} {ks : List Sx} {v : Value} (h : Row w D ks v) : ks.length ≤ maxLen := by
  cases h with
  | nil a cap => exact Nat.zero_le _
  | some g o cap _ U hD hm => exact hm
/-- An entry: a thing, and the slice of its kids. -/
abbrev En := Sx × Value
def ecs (e : En) : List Value := [.string e.1.w, .bool e.1.l, e.2]
/-- An open list: its place, its kids' slice, the kids. -/
structure Fm where
  pl : Nat
  v : Value
  es : List En
def Fm.cs (f : Fm) : List Value := [.int .i64 (f.pl : Int), f.v]
def Fm.ks (f : Fm) : List Sx := f.es.map (·.1)
theorem ecs_len (es : List En) : (es.flatMap ecs).length = es.length * 3 := by
  induction es with
  | nil => rfl
  | cons e l ih => rw [List.flatMap_cons, List.length_append, ih, List.length_cons]; show 3 + _ = _; omega
theorem ecs_at {es : List En} {i : Nat} {e : En} (h : es[i]? = some e) (j : Nat) (hj : j < 3) : (es.flatMap ecs)[i * 3 + j]? = (ecs e)[j]? := by
  induction es generalizing i with
  | nil => simp at h
  | cons m l ih =>
    rw [List.flatMap_cons]
    cases i with
    | zero =>
      obtain rfl : m = e := by simpa using h
      rw [List.getElem?_append_left (by show _ < 3; omega), Nat.zero_mul, Nat.zero_add]
    | succ i =>
      rw [List.getElem?_append_right (by show 3 ≤ _; omega)]
      show (l.flatMap ecs)[(i + 1) * 3 + j - 3]? = _
      rw [show (i + 1) * 3 + j - 3 = i * 3 + j by omega]
      exact ih (by simpa using h)
theorem fcs_len (fs : List Fm) : (fs.flatMap Fm.cs).length = fs.length * 2 := by
  induction fs with
  | nil => rfl
  | cons e l ih => rw [List.flatMap_cons, List.length_append, ih, List.length_cons]; show 2 + _ = _; omega
/-- What a slice of entries is a row of. -/
theorem row_of {w : World} {B : Nat} {D : Nat → Prop} {v : Value} {es : List En} (h : w.ownsRow B 35 3 v es.length (es.flatMap ecs)) (hD : ∀ b, v.ownBlock = some b → D b) (hk : ∀ e ∈ es, Row w D e.1.ks e.2) : Row w D (es.map (·.1)) v := by
  rcases h.2 with ⟨rfl, hn⟩ | ⟨g, cap, cur, rfl, hb, hg, hc, hmx, hs, ht⟩
  · rw [List.eq_nil_of_length_eq_zero hn]; exact .nil _ _
  · have hl : (es.map (·.1)).length = es.length := List.length_map ..
    have hr := Row.some (w := w) (D := D) g 0 cap (es.map (·.1)) (fun j => ((es[j]?).map (·.2)).getD (.slice none 0 0)) (hD g rfl) (by rw [hl]; omega) ?_ ?_
    · rw [hl] at hr; exact hr
    · intro j x hx
      obtain ⟨e, he, rfl⟩ : ∃ e, es[j]? = some e ∧ e.1 = x := by
        rw [List.getElem?_map] at hx
        obtain ⟨e, he, h2⟩ := Option.map_eq_some_iff.1 hx
        exact ⟨e, he, h2⟩
      have hjl : j < es.length := (List.getElem?_eq_some_iff.1 he).1
      have key : ∀ i, i < 3 → ∀ u, (ecs e)[i]? = some u → w.cell? ⟨g, 0 + j * 3 + i, none⟩ = some u := by
        intro i hi u hu
        have h1 := (ecs_at he i hi).trans hu
        rw [← ht, List.getElem?_take_of_lt (by omega)] at h1
        rw [Nat.zero_add]
        exact cell_of hg _ (by simpa using h1)
      refine ⟨key 0 (by decide) _ rfl, key 1 (by decide) _ rfl, ?_⟩
      rw [he]
      exact key 2 (by decide) _ rfl
    · intro j x hx
      obtain ⟨e, he, rfl⟩ : ∃ e, es[j]? = some e ∧ e.1 = x := by
        rw [List.getElem?_map] at hx
        obtain ⟨e, he, h2⟩ := Option.map_eq_some_iff.1 hx
        exact ⟨e, he, h2⟩
      rw [he]
      exact hk e (List.mem_of_getElem? he)

/-- Two blocks (or none) aren't the same. -/
def Ap (a b : Option Nat) : Prop := a = none ∨ a ≠ b
/-- The lists that are open, in blocks of their own: so is their slice (of the row's type O; cs: a list's cells). -/
structure Os (w : World) (D : Nat → Prop) (B : Nat) (so : Value) (O : TypeId) (sz : Nat) (cs : Fm → List Value) (fs : List Fm) : Prop where
  row : w.ownsRow B O sz so fs.length (fs.flatMap cs)
  own : ∀ f ∈ fs, w.ownsRow B 35 3 f.v f.es.length (f.es.flatMap ecs)
  kid : ∀ f ∈ fs, ∀ e ∈ f.es, Row w D e.1.ks e.2
  apart : (so.ownBlock :: fs.map (fun f => f.v.ownBlock)).Pairwise Ap
  live : ∀ b, some b ∈ so.ownBlock :: fs.map (fun f => f.v.ownBlock) → ¬ D b
  done : ∀ b, D b → B ≤ b ∧ b < w.heap.size
theorem row_own {w w' : World} {B : Nat} {e : TypeId} {sz : Nat} {v : Value} {n : Nat} {xs : List Value} (h : w.ownsRow B e sz v n xs) (hk : ∀ k, v.ownBlock = some k → w'.heap[k]? = w.heap[k]?) : w'.ownsRow B e sz v n xs := by
  refine ⟨h.1, ?_⟩
  rcases h.2 with hn | ⟨g, cap, cur, rfl, hb, hgg, rest⟩
  · exact .inl hn
  · exact .inr ⟨g, cap, cur, rfl, hb, by rw [hk g rfl]; exact hgg, rest⟩
/-- Where none of its blocks has turned it stays. -/
theorem Os.keep {w w' : World} {D : Nat → Prop} {B : Nat} {so : Value} {O : TypeId} {sz : Nat} {cs : Fm → List Value} {fs : List Fm} (h : Os w D B so O sz cs fs) (hs : w.heap.size ≤ w'.heap.size) (hk : ∀ b, (some b ∈ so.ownBlock :: fs.map (fun f => f.v.ownBlock) ∨ D b) → w'.heap[b]? = w.heap[b]?) : Os w' D B so O sz cs fs :=
  ⟨row_own h.row (fun k e => hk k (Or.inl (by rw [← e]; simp))),
   fun f hf => row_own (h.own f hf) (fun k e => hk k (Or.inl (by rw [← e]; exact List.mem_cons_of_mem _ (List.mem_map.2 ⟨f, hf, rfl⟩)))),
   fun f hf e he => (h.kid f hf e he).keep (fun g hg => hk g (Or.inr hg)) (fun _ h => h), h.apart, h.live, fun b hb => ⟨(h.done b hb).1, Nat.lt_of_lt_of_le (h.done b hb).2 hs⟩⟩
theorem Os.lt {w : World} {D : Nat → Prop} {B : Nat} {so : Value} {O : TypeId} {sz : Nat} {cs : Fm → List Value} {fs : List Fm} (h : Os w D B so O sz cs fs) : ∀ b, (some b ∈ so.ownBlock :: fs.map (fun f => f.v.ownBlock) ∨ D b) → B ≤ b ∧ b < w.heap.size := by
  intro b hb
  rcases hb with hb | hb
  · rcases List.mem_cons.1 hb with e | hb
    · exact h.row.lt b e.symm
    · obtain ⟨f, hf, e⟩ := List.mem_map.1 hb
      exact (h.own f hf).lt b e
  · exact h.done b hb
theorem Os.below {w w' : World} {D : Nat → Prop} {B : Nat} {so : Value} {O : TypeId} {sz : Nat} {cs : Fm → List Value} {fs : List Fm} (h : Os w D B so O sz cs fs) (hb : Below w.heap.size w w') : Os w' D B so O sz cs fs :=
  h.keep hb.size (fun b hq => hb.block b (h.lt b hq).2)
/-- The slice of the open lists, read. -/
theorem Os.sl {w : World} {D : Nat → Prop} {B : Nat} {so : Value} {O : TypeId} {sz : Nat} {cs : Fm → List Value} {fs : List Fm} (h : Os w D B so O sz cs fs) (hne : fs ≠ []) : ∃ R cap, so = .slice (some ⟨R, 0, none⟩) fs.length cap ∧ B ≤ R ∧ R < w.heap.size ∧ fs.length ≤ cap := by
  rcases h.row.2 with ⟨-, h0⟩ | ⟨R, cap, cur, rfl, hb, hg, hc, -⟩
  · exact absurd (List.eq_nil_of_length_eq_zero h0) hne
  · exact ⟨R, cap, rfl, hb, (Array.getElem?_eq_some_iff.1 hg).1, hc⟩
/-- The parser's innermost list, its two cells. -/
theorem Os.last {w : World} {D : Nat → Prop} {B R n cap : Nat} {O : TypeId} {gs : List Fm} {f : Fm} (h : Os w D B (.slice (some ⟨R, 0, none⟩) n cap) O 2 Fm.cs (gs ++ [f])) :
    n = gs.length + 1 ∧ w.cell? ⟨R, gs.length * 2, none⟩ = some (.int .i64 (f.pl : Int)) ∧ w.cell? ⟨R, gs.length * 2 + 1, none⟩ = some f.v ∧ (∀ o, w.frozen? ⟨R, o, none⟩ = false) := by
  rcases h.row.2 with ⟨h1, -⟩ | ⟨R', cap', cur, hv, hb, hg, hc, -, hs, ht⟩
  · cases h1
  · injection hv with e1 e2 e3
    obtain rfl : R = R' := by injection e1 with e1; injection e1
    subst e2
    have hn : (gs ++ [f]).length = gs.length + 1 := by simp
    have at_ : ∀ i, i < 2 → ∀ u, (f.cs)[i]? = some u → w.cell? ⟨R, gs.length * 2 + i, none⟩ = some u := by
      intro i hi u hu
      have h1 : ((gs ++ [f]).flatMap Fm.cs)[gs.length * 2 + i]? = some u := by
        rw [List.flatMap_append, List.getElem?_append_right (by rw [fcs_len]; omega), fcs_len, show gs.length * 2 + i - gs.length * 2 = i by omega]
        simpa using hu
      rw [← ht, List.getElem?_take_of_lt (by rw [hn]; omega)] at h1
      exact cell_of hg _ (by simpa using h1)
    exact ⟨hn, at_ 0 (by decide) _ rfl, at_ 1 (by decide) _ rfl, fun o => by simp [World.frozen?, hg]⟩

theorem depth_any {w : World} {p : Nat} {a : Option Addr} {n cap : Nat} (h : w.cell? ⟨p, 2, none⟩ = some (.slice a n cap)) (hn : n ≤ 100000) :
    Calls Tryd.prog 38 #[.pointer (some ⟨p, 0, none⟩)] w fun e w' => e = .returned (.int .i64 ((n : Int) - 1)) ∧ w' = w := by
  have hb : (n : Int) ≤ 100000 := by omega
  go_enter Tryd.func38, Tryd.ntmps38
  go_wp2_with fail
  go_ret
  exact ⟨rfl, rfl⟩
theorem innermost_any {w : World} {p R n cap : Nat} (h : w.cell? ⟨p, 2, none⟩ = some (.slice (some ⟨R, 0, none⟩) (n + 1) cap)) (hn : n ≤ 10000) :
    Calls Tryd.prog 39 #[.pointer (some ⟨p, 0, none⟩)] w fun e w' => e = .returned (.pointer (some ⟨R, n * 2, none⟩)) ∧ Al w w' := by
  have HD : Hid (∀ wx, wx.cell? ⟨p, 2, none⟩ = some (.slice (some ⟨R, 0, none⟩) (n + 1) cap) → Calls Tryd.prog 38 #[.pointer (some ⟨p, 0, none⟩)] wx fun e w' => e = .returned (.int .i64 (n : Int)) ∧ w' = wx) := fun wx hx => by
    have := depth_any hx (by omega)
    rw [show (((n + 1 : Nat) : Int) - 1) = (n : Int) by omega] at this; exact this
  have hb : (n : Int) < ((n + 1 : Nat) : Int) := by omega
  go_enter Tryd.func39, Tryd.ntmps39
  go_wp2_with fail
  go_quiet ((go_at_call 38; refine Calls.quiet_of_same (HD.out _ h)))
  go_wp2_with fail
  go_ret
  exact ⟨by simp, Al.drewN _ _⟩
end Go.Proofs.YtikdjloedeinhaaDoor
