/- Contracts (sexp): the cursor, and what bytes are. -/
import Derived.Test.YtikdjloedeinhaaDoorSX1
import Derived.WalkLawsBesides
import Derived.Deep.QuietTactic
import Derived.BigQuiet
import Derived.BigRegion
import Derived.WalkSmall
namespace Go.Proofs.YtikdjloedeinhaaDoor
open Go.RowKit
set_option linter.unusedSimpArgs false
set_option linter.unusedVariables false

/-- Nothing has turned but that orders were drawn. -/
structure Al (w w' : World) : Prop where
  heap : w'.heap = w.heap
  os : w'.os = w.os
  tape : w'.tape = w.tape
  output : w'.output = w.output
theorem Al.refl (w : World) : Al w w := ⟨rfl, rfl, rfl, rfl⟩
theorem Al.trans {a b c : World} (h : Al a b) (k : Al b c) : Al a c := ⟨k.heap.trans h.heap, k.os.trans h.os, k.tape.trans h.tape, k.output.trans h.output⟩
theorem Al.drewN (w : World) (n : Nat) : Al w (w.drewN n) := ⟨rfl, rfl, rfl, rfl⟩
theorem Al.cell {w w' : World} (h : Al w w') (a : Addr) : w'.cell? a = w.cell? a := by simp [World.cell?, h.heap]
theorem Al.frozen {w w' : World} (h : Al w w') (a : Addr) : w'.frozen? a = w.frozen? a := by simp [World.frozen?, h.heap]
theorem Al.below {w w' : World} (h : Al w w') (B : Nat) : Below B w w' := ⟨h.os, h.tape, h.output, by rw [h.heap]; omega, fun k _ => by rw [h.heap]⟩
/-- A cursor stands at block b: text, place, and what lies behind them. -/
structure Cu (w : World) (b : Nat) (t : ByteArray) (k : Nat) (r : List Value) (T : TypeId) : Prop where
  hd : w.heap[b]? = some (.cells (Value.string t :: Value.int .i64 (k : Int) :: r).toArray T (0, 0))
theorem cell_of {w : World} {g : Nat} {cs : Array Value} {t : TypeId} {f : Nat × Nat} (h : w.heap[g]? = some (.cells cs t f)) (j : Nat) {v : Value} (hv : cs[j]? = some v) : w.cell? ⟨g, j, none⟩ = some v := by
  simp [World.cell?, h, hv]
section
variable {w w' : World} {b k : Nat} {t : ByteArray} {r : List Value} {T : TypeId}
theorem Cu.c0 (h : Cu w b t k r T) : w.cell? ⟨b, 0, none⟩ = some (.string t) := cell_of h.hd 0 (by simp)
theorem Cu.c1 (h : Cu w b t k r T) : w.cell? ⟨b, 1, none⟩ = some (.int .i64 (k : Int)) := cell_of h.hd 1 (by simp)
theorem Cu.f1 (h : Cu w b t k r T) : w.frozen? ⟨b, 1, none⟩ = false := by
  simp [World.frozen?, h.hd]
theorem Cu.lt (h : Cu w b t k r T) : b < w.heap.size := (Array.getElem?_eq_some_iff.1 h.hd).1
theorem Cu.al (h : Cu w b t k r T) (ha : Al w w') : Cu w' b t k r T := ⟨by rw [ha.heap]; exact h.hd⟩
theorem Cu.put (h : Cu w b t k r T) (j : Nat) : Cu (w.setCell ⟨b, 1, none⟩ (.int .i64 (j : Int))) b t j r T := by
  refine ⟨?_⟩
  rw [heap_setCell_same _ _ _ _ _ _ h.hd]
  simp
end
/-- Only block b has turned. -/
structure On (w w' : World) (b : Nat) : Prop where
  os : w'.os = w.os
  tape : w'.tape = w.tape
  output : w'.output = w.output
  size : w'.heap.size = w.heap.size
  block : ∀ k, k ≠ b → w'.heap[k]? = w.heap[k]?
theorem On.refl (w : World) (b : Nat) : On w w b := ⟨rfl, rfl, rfl, rfl, fun _ _ => rfl⟩
theorem On.trans {a c d : World} {b : Nat} (h : On a c b) (k : On c d b) : On a d b := ⟨k.os.trans h.os, k.tape.trans h.tape, k.output.trans h.output, k.size.trans h.size, fun j hj => (k.block j hj).trans (h.block j hj)⟩
theorem On.al {a c d : World} {b : Nat} (h : On a c b) (k : Al c d) : On a d b := ⟨k.os.trans h.os, k.tape.trans h.tape, k.output.trans h.output, by rw [k.heap]; exact h.size, fun j hj => by rw [k.heap]; exact h.block j hj⟩
theorem On.put (w : World) (b o : Nat) (v : Value) : On w (w.setCell ⟨b, o, none⟩ v) b := ⟨rfl, rfl, rfl, World.size_setCell _ _ _, fun k hk => heap_setCell_other _ _ _ _ (by show k ≠ b; exact hk)⟩
theorem On.grown {a c : World} {b : Nat} (h : On a c b) : a.grownBy c (some b) := ⟨h.os, h.tape, h.output, by rw [h.size]; omega, fun k _ hk => h.block k (fun e => hk (by rw [e]))⟩

theorem ended_any {w : World} {b k : Nat} {t : ByteArray} {r : List Value} {T : TypeId} (h : Cu w b t k r T) :
    Calls Tryd.prog 36 #[.pointer (some ⟨b, 0, none⟩)] w fun e w' => e = .returned (.bool (decide (t.size ≤ k))) ∧ Al w w' := by
  have c0 := h.c0
  have c1 := h.c1
  clear h
  go_enter Tryd.func36, Tryd.ntmps36
  go_wp2_with fail
  go_quiet (fail)
  go_wp2_with fail
  go_ret
  exact ⟨rfl, Al.drewN _ _⟩
theorem ended_yes {w : World} {b k : Nat} {t : ByteArray} {r : List Value} {T : TypeId} (h : Cu w b t k r T) (hk : t.size ≤ k) :
    Calls Tryd.prog 36 #[.pointer (some ⟨b, 0, none⟩)] w fun e w' => e = .returned (.bool true) ∧ Al w w' := by
  have := ended_any h
  rw [decide_eq_true hk] at this; exact this
theorem ended_no {w : World} {b k : Nat} {t : ByteArray} {r : List Value} {T : TypeId} (h : Cu w b t k r T) (hk : k < t.size) :
    Calls Tryd.prog 36 #[.pointer (some ⟨b, 0, none⟩)] w fun e w' => e = .returned (.bool false) ∧ Al w w' := by
  have := ended_any h
  rw [decide_eq_false (by omega)] at this; exact this
theorem here_any {w : World} {b k : Nat} {t : ByteArray} {r : List Value} {T : TypeId} (h : Cu w b t k r T) (hk : k < t.size) :
    Calls Tryd.prog 46 #[.pointer (some ⟨b, 0, none⟩)] w fun e w' => e = .returned (.int .u8 ((t[k]'hk).toNat : Int)) ∧ Al w w' := by
  have c0 := h.c0
  have c1 := h.c1
  have h' : (k : Int) < (t.size : Int) := by omega
  clear h
  go_enter Tryd.func46, Tryd.ntmps46
  go_wp2_with fail
  go_quiet (fail)
  go_wp2_with fail
  go_ret
  exact ⟨rfl, Al.drewN _ _⟩
theorem step_any {w : World} {b k : Nat} {t : ByteArray} {r : List Value} {T : TypeId} (h : Cu w b t k r T) (hk : k < 9223372036854775807) :
    Calls Tryd.prog 49 #[.pointer (some ⟨b, 0, none⟩)] w fun e w' => e = .returned (.tuple #[]) ∧ Cu w' b t (k + 1) r T ∧ On w w' b := by
  have c0 := h.c0
  have c1 := h.c1
  have f1 := h.f1
  have hb : (k : Int) < 9223372036854775807 := by omega
  have H : Hid _ := h
  clear h hk
  go_enter Tryd.func49, Tryd.ntmps49
  go_wp2_with fail
  go_end0
  exact ⟨rfl, H.out.put (k + 1), On.put _ _ _ _⟩
theorem u8_eq (c : UInt8) (n : Nat) (h : n < 256) : ((c.toNat : Int) == (n : Int)) = decide (c = UInt8.ofNat n) := by
  have : (c = UInt8.ofNat n) ↔ c.toNat = n := by
    constructor
    · rintro rfl; simp; omega
    · intro e; rw [← e]; simp
  by_cases e : c.toNat = n
  · simp [this.2 e, e]; omega
  · have h2 : ¬ c = UInt8.ofNat n := fun q => e (this.1 q)
    simp [h2]; omega
theorem isBlank_any (c : UInt8) (w : World) :
    Calls Tryd.prog 50 #[.int .u8 (c.toNat : Int)] w fun e w' => e = .returned (.bool (blk c)) ∧ w' = w := by
  have e1 : ((c.toNat : Int) == 32) = (c == 32) := u8_eq c 32 (by decide)
  have e2 : ((c.toNat : Int) == 9) = (c == 9) := u8_eq c 9 (by decide)
  have e3 : ((c.toNat : Int) == 10) = (c == 10) := u8_eq c 10 (by decide)
  have e4 : ((c.toNat : Int) == 13) = (c == 13) := u8_eq c 13 (by decide)
  unfold blk
  rw [← e1, ← e2, ← e3, ← e4]
  clear e1 e2 e3 e4
  obtain ⟨n, hn⟩ : ∃ n : Int, n = (c.toNat : Int) := ⟨_, rfl⟩
  rw [← hn]
  clear hn
  by_cases h1 : n = 32
  · subst h1
    go_enter Tryd.func50, Tryd.ntmps50
    go_wp2_with fail
    go_ret
    exact ⟨rfl, rfl⟩
  · by_cases h2 : n = 9
    · subst h2
      go_enter Tryd.func50, Tryd.ntmps50
      go_wp2_with fail
      go_ret
      exact ⟨rfl, rfl⟩
    · by_cases h3 : n = 10
      · subst h3
        go_enter Tryd.func50, Tryd.ntmps50
        go_wp2_with fail
        go_ret
        exact ⟨rfl, rfl⟩
      · by_cases h4 : n = 13
        · subst h4
          go_enter Tryd.func50, Tryd.ntmps50
          go_wp2_with fail
          go_ret
          exact ⟨rfl, rfl⟩
        · have g1 : (n == 32) = false := by simp [h1]
          have g2 : (n == 9) = false := by simp [h2]
          have g3 : (n == 10) = false := by simp [h3]
          have g4 : (n == 13) = false := by simp [h4]
          rw [g1, g2, g3, g4]
          go_enter Tryd.func50, Tryd.ntmps50
          go_wp2_with fail
          go_ret
          exact ⟨rfl, rfl⟩
end Go.Proofs.YtikdjloedeinhaaDoor
