import Derived.Test.YtedldoobmmhloaaMg1
import Derived.Test.YtedldoobmmhloaaMg2
namespace Go.Proofs.Ytedldoobmmhloaa
set_option maxHeartbeats 12800000
set_option maxRecDepth 100000
open Go.RowKit
set_option linter.unusedSimpArgs false
set_option linter.unusedVariables false
def nft (op p q w : Int) : Bool := if op = 39 then decide (p < w) && decide (q ≤ p) && decide (0 ≤ q) else if op = 40 ∨ op = 41 ∨ op = 42 ∨ op = 43 then decide (0 ≤ p) && decide (q = 0) else if op = 44 then decide (1 ≤ p) && decide (q = 0) else decide (p = 0) && decide (q = 0)
theorem numbersFit_any (op p q v : Int) (w : World) :
  Calls Try.prog 48 #[.int .i64 op, .int .i64 p, .int .i64 q, .int .i64 v] w fun e w' => e = .returned (.bool (nft op p q v)) ∧ w' = w := by
 by_cases h : op = 39 ∨ op = 40 ∨ op = 41 ∨ op = 42 ∨ op = 43 ∨ op = 44
 ·rcases h with rfl | rfl | rfl | rfl | rfl | rfl
  ·by_cases a : p < v
   ·by_cases b : q ≤ p
    ·by_cases d : 0 ≤ q
     ·have e : nft 39 p q v = true := by simp [nft, a, b, d]
      rw [e]
      clear e
      go_enter Try.func48, Try.ntmps48
      go_wp2
      go_ret
      exact ⟨rfl, rfl⟩
     ·have e : nft 39 p q v = false := by simp [nft, d] <;> (try intros) <;> omega
      rw [e]
      clear e
      go_enter Try.func48, Try.ntmps48
      go_wp2
      go_ret
      exact ⟨rfl, rfl⟩
    ·have e : nft 39 p q v = false := by simp [nft, b] <;> (try intros) <;> omega
     rw [e]
     clear e
     go_enter Try.func48, Try.ntmps48
     go_wp2
     go_ret
     exact ⟨rfl, rfl⟩
   ·have e : nft 39 p q v = false := by simp [nft, a] <;> (try intros) <;> omega
    rw [e]
    clear e
    go_enter Try.func48, Try.ntmps48
    go_wp2
    go_ret
    exact ⟨rfl, rfl⟩
  ·by_cases a : 0 ≤ p
   ·by_cases b : q = 0
    ·have b2 : (q == 0) = true := by simp [b]
     have e : nft 40 p q v = true := by simp [nft, a, b]
     rw [e]
     clear e
     go_enter Try.func48, Try.ntmps48
     go_wp2
     go_ret
     exact ⟨rfl, rfl⟩
    ·have b2 : (q == 0) = false := by simp [b]
     have e : nft 40 p q v = false := by simp [nft, b] <;> (try intros) <;> omega
     rw [e]
     clear e
     go_enter Try.func48, Try.ntmps48
     go_wp2
     go_ret
     exact ⟨rfl, rfl⟩
   ·have e : nft 40 p q v = false := by simp [nft, a] <;> (try intros) <;> omega
    rw [e]
    clear e
    go_enter Try.func48, Try.ntmps48
    go_wp2
    go_ret
    exact ⟨rfl, rfl⟩
  ·by_cases a : 0 ≤ p
   ·by_cases b : q = 0
    ·have b2 : (q == 0) = true := by simp [b]
     have e : nft 41 p q v = true := by simp [nft, a, b]
     rw [e]
     clear e
     go_enter Try.func48, Try.ntmps48
     go_wp2
     go_ret
     exact ⟨rfl, rfl⟩
    ·have b2 : (q == 0) = false := by simp [b]
     have e : nft 41 p q v = false := by simp [nft, b] <;> (try intros) <;> omega
     rw [e]
     clear e
     go_enter Try.func48, Try.ntmps48
     go_wp2
     go_ret
     exact ⟨rfl, rfl⟩
   ·have e : nft 41 p q v = false := by simp [nft, a] <;> (try intros) <;> omega
    rw [e]
    clear e
    go_enter Try.func48, Try.ntmps48
    go_wp2
    go_ret
    exact ⟨rfl, rfl⟩
  ·by_cases a : 0 ≤ p
   ·by_cases b : q = 0
    ·have b2 : (q == 0) = true := by simp [b]
     have e : nft 42 p q v = true := by simp [nft, a, b]
     rw [e]
     clear e
     go_enter Try.func48, Try.ntmps48
     go_wp2
     go_ret
     exact ⟨rfl, rfl⟩
    ·have b2 : (q == 0) = false := by simp [b]
     have e : nft 42 p q v = false := by simp [nft, b] <;> (try intros) <;> omega
     rw [e]
     clear e
     go_enter Try.func48, Try.ntmps48
     go_wp2
     go_ret
     exact ⟨rfl, rfl⟩
   ·have e : nft 42 p q v = false := by simp [nft, a] <;> (try intros) <;> omega
    rw [e]
    clear e
    go_enter Try.func48, Try.ntmps48
    go_wp2
    go_ret
    exact ⟨rfl, rfl⟩
  ·by_cases a : 0 ≤ p
   ·by_cases b : q = 0
    ·have b2 : (q == 0) = true := by simp [b]
     have e : nft 43 p q v = true := by simp [nft, a, b]
     rw [e]
     clear e
     go_enter Try.func48, Try.ntmps48
     go_wp2
     go_ret
     exact ⟨rfl, rfl⟩
    ·have b2 : (q == 0) = false := by simp [b]
     have e : nft 43 p q v = false := by simp [nft, b] <;> (try intros) <;> omega
     rw [e]
     clear e
     go_enter Try.func48, Try.ntmps48
     go_wp2
     go_ret
     exact ⟨rfl, rfl⟩
   ·have e : nft 43 p q v = false := by simp [nft, a] <;> (try intros) <;> omega
    rw [e]
    clear e
    go_enter Try.func48, Try.ntmps48
    go_wp2
    go_ret
    exact ⟨rfl, rfl⟩
  ·by_cases a : 1 ≤ p
   ·by_cases b : q = 0
    ·have b2 : (q == 0) = true := by simp [b]
     have e : nft 44 p q v = true := by simp [nft, a, b]
     rw [e]
     clear e
     go_enter Try.func48, Try.ntmps48
     go_wp2
     go_ret
     exact ⟨rfl, rfl⟩
    ·have b2 : (q == 0) = false := by simp [b]
     have e : nft 44 p q v = false := by simp [nft, b] <;> (try intros) <;> omega
     rw [e]
     clear e
     go_enter Try.func48, Try.ntmps48
     go_wp2
     go_ret
     exact ⟨rfl, rfl⟩
   ·have e : nft 44 p q v = false := by simp [nft, a] <;> (try intros) <;> omega
    rw [e]
    clear e
    go_enter Try.func48, Try.ntmps48
    go_wp2
    go_ret
    exact ⟨rfl, rfl⟩
 ·have h39 : (op == 39) = false := by simp; omega
  have h40 : (op == 40) = false := by simp; omega
  have h41 : (op == 41) = false := by simp; omega
  have h42 : (op == 42) = false := by simp; omega
  have h43 : (op == 43) = false := by simp; omega
  have h44 : (op == 44) = false := by simp; omega
  have g39 : ¬ op = 39 := by omega
  have g4 : ¬ (op = 40 ∨ op = 41 ∨ op = 42 ∨ op = 43) := by omega
  have g44 : ¬ op = 44 := by omega
  clear h
  by_cases a : p = 0
  ·have a2 : (p == 0) = true := by simp [a]
   by_cases b : q = 0
   ·have b2 : (q == 0) = true := by simp [b]
    have e : nft op p q v = true := by unfold nft; rw [if_neg g39, if_neg g4, if_neg g44]; simp [a, b]
    rw [e]
    clear e g4 a b g39 g44
    go_enter Try.func48, Try.ntmps48
    go_wp2
    go_ret
    exact ⟨rfl, rfl⟩
   ·have b2 : (q == 0) = false := by simp [b]
    have e : nft op p q v = false := by unfold nft; rw [if_neg g39, if_neg g4, if_neg g44]; simp [b]
    rw [e]
    clear e g4 a b g39 g44
    go_enter Try.func48, Try.ntmps48
    go_wp2
    go_ret
    exact ⟨rfl, rfl⟩
  ·have a2 : (p == 0) = false := by simp [a]
   have e : nft op p q v = false := by unfold nft; rw [if_neg g39, if_neg g4, if_neg g44]; simp [a]
   rw [e]
   clear e g4 a g39 g44
   go_enter Try.func48, Try.ntmps48
   go_wp2
   go_ret
   exact ⟨rfl, rfl⟩
def ans (op p q : Int) (l : List Int) : Int :=
 if op = 8 ∨ (29 ≤ op ∧ op ≤ 36) then 0 else if op = 9 then l.getD 1 0 else if op = 37 then 1 else if op = 38 then l.getD 0 0 + l.getD 1 0 else if op = 39 then p - q + 1 else if op = 40 ∨ op = 41 then l.getD 0 0 + min p 129 else if op = 44 then l.getD 0 0 * min p 129 else l.getD 0 0
def fitB (op p q : Int) (l : List Int) : Bool := l.all srt && opf op l && nft op p q (l.getD 0 0)
def srtF (op p q : Int) (l : List Int) : Int × Int :=
 if ari op < 1 then (0, 32) else if (l.length : Int) = ari op ∧ fitB op p q l = true then (if ans op p q l ≤ 128 then (ans op p q l, 0) else (0, 31)) else (0, 30)
theorem low {f : Nat} {xs : Array Value} {w : World} {e : Ending} (h : Calls Try.prog f xs w fun e' w' => e' = e ∧ w' = w) : Calls Try.prog f xs w fun e' w' => e' = e ∧ Below w.heap.size w w' :=
 h.mono (by rintro _ _ ⟨rfl, rfl⟩; exact ⟨rfl, Below.refl _ _⟩)
theorem ari_range {op : Int} (h : 1 ≤ ari op) : 3 ≤ op ∧ op ≤ 44 := by
 unfold ari at h
 split at h
 ·omega
 ·split at h <;> omega
theorem srt_at {l : List Int} (h : l.all srt = true) {j : Nat} (hj : j < l.length) : 0 ≤ l.getD j 0 ∧ l.getD j 0 ≤ 128 := by
 rw [List.all_eq_true] at h
 have := h l[j] (List.getElem_mem hj)
 rw [List.getD_eq_getElem?_getD, List.getElem?_eq_getElem hj]
 simpa [srt] using this
theorem operandsFit_all {op : Int} {w : World} {g o c : Nat} {l : List Int} (h : Li w g o l) (hl : l.length ≤ 1000) (hc : l.length ≤ c) (hlen : (l.length : Int) = ari op) (h1 : 1 ≤ ari op) :
    Calls Try.prog 47 #[.int .i64 op, .slice (some ⟨g, o, none⟩) l.length c] w fun e w' => e = .returned (.bool (opf op l)) ∧ w' = w := by
  have hr := ari_range h1
  have hl1 : 1 ≤ l.length := by omega
  by_cases h0 : op < 3 ∨ (9 < op ∧ op < 38) ∨ 38 < op
  · exact operandsFit_else h0 h hl hl1
  · have hx : op = 3 ∨ op = 4 ∨ op = 5 ∨ op = 6 ∨ op = 7 ∨ op = 8 ∨ op = 9 ∨ op = 38 := by omega
    rcases hx with rfl | rfl | rfl | rfl | rfl | rfl | rfl | rfl
    · exact operandsFit_3 h hl hl1
    · exact operandsFit_4 h hl hl1
    · exact operandsFit_5 h hl hl1
    · exact operandsFit_6 h hl hl1
    · exact operandsFit_7 h hl hl1
    · exact operandsFit_8 h hl hl1
    · have e3 : l.length = 3 := by have : ari 9 = 3 := by decide
                                   omega
      rw [e3] at hc ⊢
      exact operandsFit_9 h e3 hc
    · have e3 : l.length = 2 := by have : ari 38 = 2 := by decide
                                   omega
      rw [e3]
      exact operandsFit_38 h e3
theorem answered_all {op p q : Int} {w : World} {g o c : Nat} {l : List Int} (h : Li w g o l) (hlen : (l.length : Int) = ari op) (h1 : 1 ≤ ari op) (hall : l.all srt = true) (hn : nft op p q (l.getD 0 0) = true) :
    Calls Try.prog 49 #[.int .i64 op, .int .i64 p, .int .i64 q, .slice (some ⟨g, o, none⟩) l.length c] w fun e w' => e = .returned (.int .i64 (ans op p q l)) ∧ Below w.heap.size w w' := by
  have hr := ari_range h1
  have hl1 : 1 ≤ l.length := by omega
  have c0 := h 0 hl1
  have s0 := srt_at hall hl1
  by_cases h0 : op < 8 ∨ (9 < op ∧ op < 29) ∨ op = 42 ∨ op = 43
  · have e : ans op p q l = l.getD 0 0 := by
      unfold ans
      rw [if_neg (by omega), if_neg (by omega), if_neg (by omega), if_neg (by omega), if_neg (by omega), if_neg (by omega), if_neg (by omega)]
    rw [e]
    exact low (answered_else h0 c0 hl1)
  · have hx : op = 8 ∨ op = 9 ∨ op = 29 ∨ op = 30 ∨ op = 31 ∨ op = 32 ∨ op = 33 ∨ op = 34 ∨ op = 35 ∨ op = 36 ∨ op = 37 ∨ op = 38 ∨ op = 39 ∨ op = 40 ∨ op = 41 ∨ op = 44 := by omega
    rcases hx with rfl | rfl | rfl | rfl | rfl | rfl | rfl | rfl | rfl | rfl | rfl | rfl | rfl | rfl | rfl | rfl
    · exact low (answered_8 c0 hl1)
    · have e3 : l.length = 3 := by have : ari 9 = 3 := by decide
                                   omega
      exact low (answered_9 (h 1 (by omega)) (by omega))
    · exact low (answered_29 c0 hl1)
    · exact low (answered_30 c0 hl1)
    · exact low (answered_31 c0 hl1)
    · exact low (answered_32 c0 hl1)
    · exact low (answered_33 c0 hl1)
    · exact low (answered_34 c0 hl1)
    · exact low (answered_35 c0 hl1)
    · exact low (answered_36 c0 hl1)
    · exact low (answered_37 c0 hl1)
    · have e3 : l.length = 2 := by have : ari 38 = 2 := by decide
                                   omega
      have s1 := srt_at hall (show 1 < l.length by omega)
      exact answered_38 c0 (h 1 (by omega)) (by omega) s0.1 s0.2 s1.1 s1.2
    · have hn' : (p < l.getD 0 0 ∧ q ≤ p) ∧ 0 ≤ q := by simpa [nft] using hn
      exact low (answered_39 c0 hl1 hn'.2 hn'.1.2 (by omega))
    · have hn' : 0 ≤ p ∧ q = 0 := by simpa [nft] using hn
      exact low (answered_40 c0 hl1 hn'.1 s0.1 s0.2)
    · have hn' : 0 ≤ p ∧ q = 0 := by simpa [nft] using hn
      exact low (answered_41 c0 hl1 hn'.1 s0.1 s0.2)
    · have hn' : 1 ≤ p ∧ q = 0 := by simpa [nft] using hn
      exact low (answered_44 c0 hl1 (by omega) s0.1 s0.2)
theorem sort_any {op p q : Int} {w : World} {g o c : Nat} {l : List Int} (h : Li w g o l) (hl : l.length ≤ 1000) (hc : l.length ≤ c) :
  Calls Try.prog 38 #[.int .i64 op, .int .i64 p, .int .i64 q, .slice (some ⟨g, o, none⟩) l.length c] w fun e w' => e = .returned (.tuple #[.int .i64 (srtF op p q l).1, .int .i64 (srtF op p q l).2]) ∧ Below w.heap.size w w' := by
 by_cases h0 : ari op < 1
 ·have e : srtF op p q l = (0, 32) := by unfold srtF; rw [if_pos h0]
  rw [e]
  exact sort_noop hl h0 w
 ·by_cases h1 : (l.length : Int) = ari op
  ·have hl1 : 1 ≤ l.length := by omega
   refine (sort_parts (s := ans op p q l) (s0 := l.getD 0 0) (b1 := l.all srt) (b2 := opf op l) (b3 := nft op p q (l.getD 0 0)) hl hl1 h1 w (h 0 hl1) (areSorts_any h hl) (fun _ => operandsFit_all h hl hc h1 (by omega)) (numbersFit_any _ _ _ _ w) (fun a _ b => answered_all h h1 (by omega) a b)).mono ?_
   rintro e w' ⟨rfl, hb⟩
   refine ⟨?_, hb⟩
   have e : fitB op p q l = (l.all srt && opf op l && nft op p q (l.getD 0 0)) := rfl
   unfold srtF
   rw [if_neg h0, ← e]
   cases hf : fitB op p q l
   ·simp
   ·by_cases ha : ans op p q l ≤ 128
    ·simp [ha, h1]
    ·simp [ha, h1]
  ·have e : srtF op p q l = (0, 30) := by unfold srtF; rw [if_neg h0, if_neg (fun x => h1 x.1)]
   rw [e]
   exact sort_count hl (by omega) h1 w
end Go.Proofs.Ytedldoobmmhloaa
