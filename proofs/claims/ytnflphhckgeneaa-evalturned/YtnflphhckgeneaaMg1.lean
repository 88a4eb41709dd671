/- Where a call is handed no memory, what it leaves is the row's end: nothing old has turned. -/
import Derived.WalkKit
import Derived.ProofKit
import Derived.OpenShut
import Derived.Below
import Derived.Test.YtnflphhckgeneaaProg
import Derived.Handy
import Derived.WalkLawsBesides
import Derived.Deep.RegionHeld3
namespace Go.Proofs.Ytnflphhckgeneaa
open Go.RowKit
set_option linter.unusedSimpArgs false
set_option linter.unusedVariables false
open Go.ChangeShapes Go.WideShapes Go.ChangeAt

theorem post_below {H : Type} {enc : TypeId × Value → H} {P : Program} {f : Func} {s : ChangeSpec} {apart fresh handsOn again : Bool} {W W' : World} {args : Array Value} {v : Value} {ds gs : List (DataW H)}
    (hW : DataW.Whole enc P f.params.toList s.vars apart W args.toList ds gs [])
    (hres : ∀ (b : Nat) (sp : Nat → Bool) (hd : Bool), DataW.TrodAll enc P W' b sp hd f.resultTypes.toList (v.resultList f.resultTypes.size) (s.fn H (ds ++ gs)).results [])
    (hargs : ∀ sp : Nat → Bool, DataW.TrodAll enc P W' 0 sp true f.params.toList args.toList (s.fn H (ds ++ gs)).args [])
    (hvars : ∀ sp : Nat → Bool, DataW.TrodVars enc P W' sp s.vars (s.fn H (ds ++ gs)).vars [])
    (hb : Below W.heap.size W W')
    (hok : ∀ (j : Nat) (t : TypeId) (r : Value), f.resultTypes[j]? = some t → (v.resultList f.resultTypes.size)[j]? = some r → Value.okWide P W' .any 0 t r) :
    s.post enc P f apart fresh handsOn again W args v W' := by
  refine ⟨ds, gs, [], [], [], [], hW, hres _ _ _, hargs _, hvars _, hb.frame _, fun _ => ⟨hok, _, _, [], ⟨[], [], trodAll_append (hargs _) (hres _ _ _), hvars _, rfl, ?_, ?_⟩, ?_⟩⟩
  · intro b off hp; cases hp
  · intro _; exact List.nodup_nil
  · intro p hp _; cases hp

theorem lit_u64 {a : Int} (h : (Lit.int .u64 a).wf = true) : 0 ≤ a ∧ a < 18446744073709551616 := by
  simp [Lit.wf, IntKind.min, IntKind.max, IntKind.signed, IntKind.bits] at h
  omega
end Go.Proofs.Ytnflphhckgeneaa

/- Contracts (terms): operators' operands; lists of sorts. -/
namespace Go.Proofs.Ytnflphhckgeneaa
open Go.RowKit
set_option linter.unusedSimpArgs false
set_option linter.unusedVariables false

/-- How many operands an operator has. -/
def ari (op : Int) : Int := if op < 1 ∨ 44 < op then -1 else if op = 1 ∨ op = 2 then 0 else if op = 3 ∨ op = 10 ∨ op = 11 ∨ op = 39 ∨ op = 40 ∨ op = 41 ∨ op = 42 ∨ op = 43 ∨ op = 44 then 1 else if op = 9 then 3 else 2

set_option maxHeartbeats 1600000 in
theorem arity_any (op : Int) (w : World) :
    Calls Try.prog 23 #[.int .i64 op] w fun e w' => e = .returned (.int .i64 (ari op)) ∧ w' = w := by
  by_cases h0 : op < 1
  · have e : ari op = -1 := by unfold ari; rw [if_pos (Or.inl h0)]
    rw [e]
    have q1 : (op == 1) = false := by simp; omega
    have q2 : (op == 2) = false := by simp; omega
    have q3 : (op == 3) = false := by simp; omega
    have q10 : (op == 10) = false := by simp; omega
    have q11 : (op == 11) = false := by simp; omega
    have q39 : (op == 39) = false := by simp; omega
    have q40 : (op == 40) = false := by simp; omega
    have q41 : (op == 41) = false := by simp; omega
    have q42 : (op == 42) = false := by simp; omega
    have q43 : (op == 43) = false := by simp; omega
    have q44 : (op == 44) = false := by simp; omega
    have q9 : (op == 9) = false := by simp; omega
    go_enter Try.func23, Try.ntmps23
    go_wp2
    go_ret
    exact ⟨rfl, rfl⟩
  · by_cases h1 : 44 < op
    · have e : ari op = -1 := by unfold ari; rw [if_pos (Or.inr h1)]
      rw [e]
      have q1 : (op == 1) = false := by simp; omega
      have q2 : (op == 2) = false := by simp; omega
      have q3 : (op == 3) = false := by simp; omega
      have q10 : (op == 10) = false := by simp; omega
      have q11 : (op == 11) = false := by simp; omega
      have q39 : (op == 39) = false := by simp; omega
      have q40 : (op == 40) = false := by simp; omega
      have q41 : (op == 41) = false := by simp; omega
      have q42 : (op == 42) = false := by simp; omega
      have q43 : (op == 43) = false := by simp; omega
      have q44 : (op == 44) = false := by simp; omega
      have q9 : (op == 9) = false := by simp; omega
      go_enter Try.func23, Try.ntmps23
      go_wp2
      go_ret
      exact ⟨rfl, rfl⟩
    · by_cases h2 : op = 1 ∨ op = 2 ∨ op = 3 ∨ op = 10 ∨ op = 11 ∨ op = 39 ∨ op = 40 ∨ op = 41 ∨ op = 42 ∨ op = 43 ∨ op = 44 ∨ op = 9
      · clear h0 h1
        rcases h2 with rfl | rfl | rfl | rfl | rfl | rfl | rfl | rfl | rfl | rfl | rfl | rfl
        all_goals
          go_enter Try.func23, Try.ntmps23
          go_wp2
          go_ret
          exact ⟨rfl, rfl⟩
      · have e : ari op = 2 := by unfold ari; rw [if_neg (by omega), if_neg (by omega), if_neg (by omega), if_neg (by omega)]
        rw [e]
        have q1 : (op == 1) = false := by simp; omega
        have q2 : (op == 2) = false := by simp; omega
        have q3 : (op == 3) = false := by simp; omega
        have q10 : (op == 10) = false := by simp; omega
        have q11 : (op == 11) = false := by simp; omega
        have q39 : (op == 39) = false := by simp; omega
        have q40 : (op == 40) = false := by simp; omega
        have q41 : (op == 41) = false := by simp; omega
        have q42 : (op == 42) = false := by simp; omega
        have q43 : (op == 43) = false := by simp; omega
        have q44 : (op == 44) = false := by simp; omega
        have q9 : (op == 9) = false := by simp; omega
        clear h2
        go_enter Try.func23, Try.ntmps23
        go_wp2
        go_ret
        exact ⟨rfl, rfl⟩

/-- A number that is a sort. -/
def srt (s : Int) : Bool := decide (0 ≤ s) && decide (s ≤ 128)
theorem isSort_any (s : Int) (w : World) :
    Calls Try.prog 59 #[.int .i64 s] w fun e w' => e = .returned (.bool (srt s)) ∧ w' = w := by
  by_cases h0 : 0 ≤ s
  · by_cases h1 : s ≤ 128
    · have e : srt s = true := by simp [srt, h0, h1]
      rw [e]
      go_enter Try.func59, Try.ntmps59
      go_wp2
      go_ret
      exact ⟨by simp [h1], rfl⟩
    · have e : srt s = false := by simp [srt, h1]
      rw [e]
      go_enter Try.func59, Try.ntmps59
      go_wp2
      go_ret
      exact ⟨by simp [h1], rfl⟩
  · have e : srt s = false := by simp [srt, h0]
    rw [e]
    go_enter Try.func59, Try.ntmps59
    go_wp2
    go_ret
    exact ⟨rfl, rfl⟩
/-- The cells behind g, o hold the numbers l. -/
def Li (w : World) (g o : Nat) (l : List Int) : Prop := ∀ j, j < l.length → w.cell? ⟨g, o + j, none⟩ = some (.int .i64 (l.getD j 0))
theorem all_no {l : List Int} {f : Int → Bool} {k : Nat} (hk : k < l.length) (h : f (l.getD k 0) = false) : l.all f = false := by
  rw [List.all_eq_false]
  exact ⟨l[k], List.getElem_mem hk, by rw [List.getD_eq_getElem?_getD, List.getElem?_eq_getElem hk] at h; simpa using h⟩
theorem all_yes {l : List Int} {f : Int → Bool} (h : ∀ j, j < l.length → f (l.getD j 0) = true) : l.all f = true := by
  rw [List.all_eq_true]
  intro x hx
  obtain ⟨j, hj, rfl⟩ := List.getElem_of_mem hx
  have := h j hj
  rwa [List.getD_eq_getElem?_getD, List.getElem?_eq_getElem hj] at this

set_option maxHeartbeats 800000 in
theorem areSorts_any {w : World} {g o c : Nat} {l : List Int} (h : Li w g o l) (hl : l.length ≤ 1000) :
    Calls Try.prog 24 #[.slice (some ⟨g, o, none⟩) l.length c] w fun e w' => e = .returned (.bool (l.all srt)) ∧ w' = w := by
  have HC : Hid _ := h
  obtain ⟨n, hn⟩ : ∃ n, n = l.length := ⟨_, rfl⟩
  rw [← hn] at hl ⊢
  obtain ⟨r, hr⟩ : ∃ r, r = l.all srt := ⟨_, rfl⟩
  rw [← hr]
  have HR : Hid (r = l.all srt) := hr
  have HN : Hid (n = l.length) := hn
  clear h hr hn
  go_enter Try.func24, Try.ntmps24
  go_wp2_with fail
  go_loop [7] (fun i => ∃ k : Nat, k ≤ n ∧ i = .int .i64 (k : Int) ∧ ∀ j, j < k → srt (l.getD j 0) = true) (fun i => n - (intOf i).toNat)
  case atStart => exact ⟨0, Nat.zero_le _, rfl, fun j hj => by omega⟩
  case round =>
    obtain ⟨k, hk, rfl, hz⟩ := hrel
    have HZ : Hid _ := hz
    clear hz
    by_cases hlt : k < n
    · obtain ⟨s, hs⟩ : ∃ s, s = l.getD k 0 := ⟨_, rfl⟩
      have hck : w.cell? ⟨g, o + k, none⟩ = some (.int .i64 s) := by rw [hs]; exact HC.out k (by rw [← HN.out]; exact hlt)
      obtain ⟨b, hb⟩ : ∃ b, b = srt s := ⟨_, rfl⟩
      have HI : Hid (∀ wx, Calls Try.prog 59 #[.int .i64 s] wx fun e w' => e = .returned (.bool b) ∧ w' = wx) := fun wx => by rw [hb]; exact isSort_any s wx
      have HB : Hid (srt (l.getD k 0) = b) := by unfold Hid; rw [hb, hs]
      clear hs hb
      cases b
      · go_wp2_with fail
        refine (HI.out _).mono ?_
        rintro e wz ⟨rfl, rfl⟩
        go_wp2_with fail
        go_ret
        exact ⟨by rw [HR.out, all_no (by rw [← HN.out]; exact hlt) HB.out]; rfl, rfl⟩
      · go_wp2_with fail
        refine (HI.out _).mono ?_
        rintro e wz ⟨rfl, rfl⟩
        go_wp2_with fail
        go_round
        case rel =>
          refine ⟨k + 1, by omega, by go_num, fun j hj => ?_⟩
          by_cases e : j = k
          · subst e; exact HB.out
          · exact HZ.out j (by omega)
        case measure => simp [intOf]; omega
    · obtain rfl : k = n := by omega
      go_wp2_with fail
      go_ret
      exact ⟨by rw [HR.out, all_yes (fun j hj => HZ.out j (by rw [HN.out]; exact hj))]; rfl, rfl⟩
end Go.Proofs.Ytnflphhckgeneaa

/- Contracts (terms): whether sorts are alike; whether numbers fit. -/
namespace Go.Proofs.Ytnflphhckgeneaa
open Go.RowKit
set_option linter.unusedSimpArgs false
set_option linter.unusedVariables false

/-- All the same as the first. -/
def alk (l : List Int) : Bool := l.all fun s => s == l.getD 0 0

set_option maxHeartbeats 1600000 in
theorem alike_any {w : World} {g o c : Nat} {l : List Int} (h : Li w g o l) (hl : l.length ≤ 1000) (h1 : 1 ≤ l.length) :
    Calls Try.prog 60 #[.slice (some ⟨g, o, none⟩) l.length c] w fun e w' => e = .returned (.bool (alk l)) ∧ w' = w := by
  have HC : Hid _ := h
  obtain ⟨s0, hs0⟩ : ∃ s, s = l.getD 0 0 := ⟨_, rfl⟩
  have hc0 : w.cell? ⟨g, o, none⟩ = some (.int .i64 s0) := by rw [hs0]; exact HC.out 0 (by omega)
  obtain ⟨n, hn⟩ : ∃ n, n = l.length := ⟨_, rfl⟩
  rw [← hn] at hl h1 ⊢
  obtain ⟨r, hr⟩ : ∃ r, r = alk l := ⟨_, rfl⟩
  rw [← hr]
  have HR : Hid (r = l.all fun s => s == l.getD 0 0) := hr
  have HS : Hid (s0 = l.getD 0 0) := hs0
  have HN : Hid (n = l.length) := hn
  clear h hr hn hs0
  go_enter Try.func60, Try.ntmps60
  go_wp2_with fail
  go_loop [7] (fun i => ∃ k : Nat, 0 ≤ k ∧ k ≤ n ∧ i = .int .i64 (k : Int) ∧ ∀ j, j < k → (l.getD j 0 == l.getD 0 0) = true) (fun i => n - (intOf i).toNat)
  case atStart => exact ⟨0, Nat.le_refl _, by omega, rfl, fun j hj => by omega⟩
  case round =>
    obtain ⟨k, hk1, hk, rfl, hz⟩ := hrel
    have HZ : Hid _ := hz
    clear hz
    by_cases hlt : k < n
    · obtain ⟨s, hs⟩ : ∃ s, s = l.getD k 0 := ⟨_, rfl⟩
      have hck : w.cell? ⟨g, o + k, none⟩ = some (.int .i64 s) := by rw [hs]; exact HC.out k (by rw [← HN.out]; exact hlt)
      by_cases e : s = s0
      · have HB : Hid ((l.getD k 0 == l.getD 0 0) = true) := by unfold Hid; rw [← hs, ← HS.out]; simp [e]
        subst e
        clear hs
        go_wp2_with fail
        go_round
        case rel =>
          refine ⟨k + 1, by omega, by omega, by go_num, fun j hj => ?_⟩
          by_cases e : j = k
          · subst e; exact HB.out
          · exact HZ.out j (by omega)
        case measure => simp [intOf]; omega
      · have HB : Hid ((l.getD k 0 == l.getD 0 0) = false) := by unfold Hid; rw [← hs, ← HS.out]; simp [e]
        have hne : (s == s0) = false := by simp [e]
        have hne2 : (s != s0) = true := by simp [e]
        clear hs
        go_wp2_with fail
        go_ret
        exact ⟨by rw [HR.out, all_no (f := fun s => s == l.getD 0 0) (by rw [← HN.out]; exact hlt) HB.out]; rfl, rfl⟩
    · obtain rfl : k = n := by omega
      go_wp2_with fail
      go_ret
      exact ⟨by rw [HR.out, all_yes (f := fun s => s == l.getD 0 0) (fun j hj => HZ.out j (by rw [HN.out]; exact hj))]; rfl, rfl⟩

end Go.Proofs.Ytnflphhckgeneaa
