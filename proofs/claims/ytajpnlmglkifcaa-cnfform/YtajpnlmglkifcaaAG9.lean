/- Contracts (aig): a literal's value. -/
import Derived.Test.YtajpnlmglkifcaaAG8
namespace Go.Proofs.Ytajpnlmglkifcaa
open Go.RowKit
set_option linter.unusedSimpArgs false
set_option linter.unusedVariables false

/-- A literal's value by those of nodes. -/
def litV (f : Nat → Bool) (l : Nat) : Bool := f (l / 2) != decide (l % 2 = 1)
/-- Values behind the first i inputs. -/
def sI (ins : List Int) (il : List Bool) : Nat → Nat → Bool
  | 0 => fun _ => false
  | i + 1 => fun j => if 2 * (j : Int) = ins.getD i 0 then il.getD i false else sI ins il i j
/-- Values behind the first t nodes. -/
def sN (ks : List Kd) (s0 : Nat → Bool) : Nat → Nat → Bool
  | 0 => s0
  | t + 1 => fun j => if j = t ∧ isK (ks.getD t (0, 0)) = true then litV (sN ks s0 t) (ks.getD t (0, 0)).1 && litV (sN ks s0 t) (ks.getD t (0, 0)).2 else sN ks s0 t j
def s0F (ks : List Kd) (il : List Bool) : Nat → Bool := sI (insL ks) il (insL ks).length
def evV (ks : List Kd) (il : List Bool) (l : Nat) : Bool := litV (sN ks (s0F ks il) (l / 2 + 1)) l
/-- What Eval tells. -/
def evF (ks : List Kd) (l : Int) (il : List Bool) : Bool × Int :=
  if litB ks.length l = false then (false, 80) else if il.length ≠ (insL ks).length then (false, 82) else (evV ks il l.toNat, 0)

/-- v is a slice of these truths. -/
def Bz (w : World) (v : Value) (l : List Bool) : Prop := ∃ a c, v = .slice a l.length c ∧ (l = [] ∨ ∃ r o, a = some ⟨r, o, none⟩ ∧ ∀ j, j < l.length → w.cell? ⟨r, o + j, none⟩ = some (.bool (l.getD j false)))
theorem Bz.below {w w' : World} {v : Value} {l : List Bool} (h : Bz w v l) (hb : Below w.heap.size w w') : Bz w' v l := by
  obtain ⟨a, c, rfl, h⟩ := h
  refine ⟨a, c, rfl, ?_⟩
  rcases h with h | ⟨r, o, ha, h⟩
  · exact Or.inl h
  · exact Or.inr ⟨r, o, ha, fun j hj => keep_cell hb (h j hj)⟩

theorem and_one (l : Nat) (h : l < 1000000) : bits .and .i64 (l : Int) 1 = ((l % 2 : Nat) : Int) := by
  have h1 : bits .and .i64 (l : Int) 1 = IntKind.i64.wrap (((BitVec.ofInt 64 (l : Int) &&& BitVec.ofInt 64 1).toNat : Nat) : Int) := rfl
  rw [h1, IntKind.wrap_i64, BitVec.toNat_and, show (BitVec.ofInt 64 1).toNat = 1 from rfl, Nat.and_one_is_mod, BitVec.toNat_ofInt]
  have e64 : ((2 ^ 64 : Nat) : Int) = 18446744073709551616 := rfl
  rw [e64]
  omega
set_option maxHeartbeats 1600000 in
theorem valueOf_any {w : World} {b C c : Nat} {f : Nat → Bool} (h : w.rowIs b 4 C (fun j => .bool (f j))) {l : Nat} (hl : l / 2 < C) (hC : C ≤ 100000) :
    Calls Try.prog 36 #[.slice (some ⟨b, 0, none⟩) C c, .int .i64 (l : Int)] w fun e w' => e = .returned (.bool (litV f l)) ∧ w' = w := by
  have hc := h.cell hl
  have HN : Hid (∀ wx, Calls Try.prog 34 #[.int .i64 (l : Int)] wx fun e w' => e = .returned (.int .i64 ((l / 2 : Nat) : Int)) ∧ w' = wx) := fun wx => node_any l wx
  have ha := and_one l (by omega)
  have HV : Hid (litV f l = (f (l / 2) != decide (l % 2 = 1))) := rfl
  obtain ⟨L, hL⟩ : ∃ L, L = l / 2 := ⟨_, rfl⟩
  obtain ⟨Z, hZ⟩ : ∃ Z, Z = l % 2 := ⟨_, rfl⟩
  obtain ⟨V, hV⟩ : ∃ V, V = litV f l := ⟨_, rfl⟩
  obtain ⟨x, hx⟩ : ∃ x, x = f (l / 2) := ⟨_, rfl⟩
  rw [← hV]
  rw [← hx] at hc HV
  rw [← hL] at hl hc HN
  rw [← hZ] at ha HV
  rw [← hV] at HV
  have hl' : (L : Int) < (C : Int) := by omega
  have z : ((Z : Int) == 1) = decide (Z = 1) := by
    by_cases e : Z = 1
    · subst e; rfl
    · simp [e]; omega
  clear h hL hZ hV hx
  go_enter Try.func36, Try.ntmps36
  go_wp2_with fail
  refine (HN.out _).mono ?_
  rintro e wz ⟨rfl, hw⟩
  rw [hw]
  clear hw wz
  go_wp2_with fail
  go_ret
  refine ⟨?_, rfl⟩
  rw [HV.out]
  rfl

theorem Is'.any {w : World} {base : Nat} {v : Value} {l : List Int} (h : Is' w base v l) : ∃ a c, v = .slice a l.length c ∧ (l = [] ∨ ∃ r, a = some ⟨r, 0, none⟩ ∧ r < w.heap.size ∧ Li w r 0 l) := by
  by_cases hl : l = []
  · subst hl
    rcases h.2 with ⟨rfl, hn⟩ | ⟨r, cap, cur, rfl, hb, hg, hc, _, hs, ht⟩
    · exact ⟨none, 0, rfl, Or.inl rfl⟩
    · exact ⟨_, cap, rfl, Or.inl rfl⟩
  · obtain ⟨r, cap, rfl, hb, hc, hLi⟩ := h.li hl
    exact ⟨_, cap, rfl, Or.inr ⟨r, rfl, (World.ownsRow.lt h r rfl).2, hLi⟩⟩
theorem ins_lit {ks : List Kd} {i : Nat} (hi : i < (insL ks).length) : ∃ n : Nat, (insL ks).getD i 0 = 2 * (n : Int) ∧ 0 < n ∧ n < ks.length := by
  have hm : (insL ks).getD i 0 ∈ insL ks := by
    rw [List.getD_eq_getElem?_getD, List.getElem?_eq_getElem hi]; exact List.getElem_mem _
  obtain ⟨n, h1, h2, h3⟩ := mem_insL.1 hm
  exact ⟨n, h3, by omega, (List.getElem?_eq_some_iff.1 h1).1⟩

set_option maxHeartbeats 1600000 in
theorem eval_lit {w : World} {F : Nat → Prop} {g mo : Nat} {ks : List Kd} (h : Gr w F g mo ks) {l : Int} (hl : litB ks.length l = false) (v : Value) :
    Calls Try.prog 13 #[.pointer (some ⟨g, 0, none⟩), .int .i64 l, v] w fun e w' => e = .returned (.tuple #[.bool false, .int .i64 80]) ∧ Below w.heap.size w w' := by
  have HH : Hid (∀ (wx : World) q, Below w.heap.size w wx → Li wx q 0 [l] → Calls Try.prog 33 #[.pointer (some ⟨g, 0, none⟩), .slice (some ⟨q, 0, none⟩) 1 1] wx fun e w' => e = .returned (.bool false) ∧ Below wx.heap.size wx w') := fun wx q hb hq => by
    have := has_any (h.below hb) (c := 1) hq (by simp)
    rw [show [l].all (litB ks.length) = litB ks.length l by simp, hl] at this
    exact this
  clear h hl
  go_enter Try.func13, Try.ntmps13
  go_wp2_with fail
  refine (HH.out _ _ (by go_grown) (Li_one w l _)).mono ?_
  rintro e w1 ⟨rfl, hb⟩
  have hb1 : Below w.heap.size w w1 := Below.trans (by go_grown) (hb.mono (by simp))
  clear hb
  go_wp2_with fail
  refine bodyPost_ret (v := .tuple #[.bool false, .int .i64 80]) (by simp [results, Try.results13, go_sem]) rfl ?_
  exact ⟨rfl, hb1⟩
set_option maxHeartbeats 1600000 in
theorem eval_in {w : World} {F : Nat → Prop} {g mo : Nat} {ks : List Kd} (h : Gr w F g mo ks) {l : Int} (hl : litB ks.length l = true) {v : Value} {il : List Bool} (hv : Bz w v il) (hn : il.length ≠ (insL ks).length) :
    Calls Try.prog 13 #[.pointer (some ⟨g, 0, none⟩), .int .i64 l, v] w fun e w' => e = .returned (.tuple #[.bool false, .int .i64 82]) ∧ Below w.heap.size w w' := by
  have HH : Hid (∀ (wx : World) q, Below w.heap.size w wx → Li wx q 0 [l] → Calls Try.prog 33 #[.pointer (some ⟨g, 0, none⟩), .slice (some ⟨q, 0, none⟩) 1 1] wx fun e w' => e = .returned (.bool true) ∧ Below wx.heap.size wx w') := fun wx q hb hq => by
    have := has_any (h.below hb) (c := 1) hq (by simp)
    rw [show [l].all (litB ks.length) = litB ks.length l by simp, hl] at this
    exact this
  obtain ⟨m, v1, u, hx, -⟩ := h
  have hg := hx.lt
  have HC : Hid _ := hx.c3
  obtain ⟨a, c, rfl, -⟩ := hx.ins.any
  obtain ⟨a', c', rfl, -⟩ := hv
  obtain ⟨n, en⟩ : ∃ n, n = (insL ks).length := ⟨_, rfl⟩
  obtain ⟨n', en'⟩ : ∃ n', n' = il.length := ⟨_, rfl⟩
  rw [← en] at hn HC
  rw [← en'] at hn ⊢
  have z : ((n' : Int) == (n : Int)) = false := by simp; omega
  have z' : ((n' : Int) != (n : Int)) = true := by simp; omega
  clear hx hl en en'
  go_enter Try.func13, Try.ntmps13
  go_wp2_with fail
  refine (HH.out _ _ (by go_grown) (Li_one w l _)).mono ?_
  rintro e w1 ⟨rfl, hb⟩
  have hb1 : Below w.heap.size w w1 := Below.trans (by go_grown) (hb.mono (by simp))
  have c3 : w1.cell? ⟨g, 3, none⟩ = some (.slice a n c) := bel_cell hb1 hg HC.out
  clear hb
  go_wp2_with fail
  refine bodyPost_ret (v := .tuple #[.bool false, .int .i64 82]) (by simp [results, Try.results13, go_sem]) rfl ?_
  exact ⟨rfl, hb1⟩
end Go.Proofs.Ytajpnlmglkifcaa
