/- Contracts (clauses): literals; the encoder's small calls. -/
import Derived.Test.YtajpnlmglkifcaaCN1
import Derived.Test.YtajpnlmglkifcaaAG10
namespace Go.Proofs.Ytajpnlmglkifcaa
open Go.RowKit
set_option linter.unusedSimpArgs false
set_option linter.unusedVariables false

/-- The bit of a literal. -/
def pol (l : Nat) : Int := if l % 2 = 0 then 1 else 2
theorem cnode_any (l : Nat) (w : World) :
    Calls Try.prog 38 #[.int .i64 (l : Int)] w fun e w' => e = .returned (.int .i64 ((l / 2 : Nat) : Int)) ∧ w' = w := by
  go_enter Try.func38, Try.ntmps38
  go_wp2_with fail
  go_ret
  exact ⟨rfl, rfl⟩
theorem turned_any {l : Nat} (hl : l < 1000000) (w : World) :
    Calls Try.prog 53 #[.int .i64 (l : Int)] w fun e w' => e = .returned (.int .i64 ((l % 2 : Nat) : Int)) ∧ w' = w := by
  have ha := and_one l hl
  obtain ⟨Z, hZ⟩ : ∃ Z, Z = l % 2 := ⟨_, rfl⟩
  rw [← hZ] at ha ⊢
  clear hZ
  go_enter Try.func53, Try.ntmps53
  go_wp2_with fail
  go_ret
  exact ⟨by first | rfl | (rw [ha]), rfl⟩
theorem polarity_any {l : Nat} (hl : l < 1000000) (w : World) :
    Calls Try.prog 51 #[.int .i64 (l : Int)] w fun e w' => e = .returned (.int .i64 (pol l)) ∧ w' = w := by
  have HT : Hid (∀ wx, Calls Try.prog 53 #[.int .i64 (l : Int)] wx fun e w' => e = .returned (.int .i64 ((l % 2 : Nat) : Int)) ∧ w' = wx) := fun wx => turned_any hl wx
  unfold pol
  rcases Nat.mod_two_eq_zero_or_one l with e | e
  · rw [e] at HT ⊢
    clear e hl
    go_enter Try.func51, Try.ntmps51
    go_wp2_with fail
    refine (HT.out _).mono ?_
    rintro e w1 ⟨rfl, hw⟩
    rw [hw]
    go_wp2_with fail
    go_ret
    exact ⟨rfl, rfl⟩
  · rw [e] at HT ⊢
    clear e hl
    go_enter Try.func51, Try.ntmps51
    go_wp2_with fail
    refine (HT.out _).mono ?_
    rintro e w1 ⟨rfl, hw⟩
    rw [hw]
    go_wp2_with fail
    go_ret
    exact ⟨rfl, rfl⟩
theorem meant_any (l : Nat) (w : World) :
    Calls Try.prog 40 #[.int .i64 (l : Int)] w fun e w' => e = .returned (.int .i64 ((max l 1 : Nat) : Int)) ∧ w' = w := by
  by_cases h : l = 0
  · subst h
    go_enter Try.func40, Try.ntmps40
    go_wp2_with fail
    go_ret
    exact ⟨rfl, rfl⟩
  · have hm : max l 1 = l := by omega
    have hi : (1 : Int) ≤ (l : Int) := by omega
    rw [hm]
    clear hm h
    go_enter Try.func40, Try.ntmps40
    go_wp2_with fail
    go_ret
    exact ⟨by first | rfl | (simp; omega), rfl⟩
/-- The encoder at block e, over the graph at g: its greatest variable, its maps. -/
structure En (w : World) (e g : Nat) (vars : Int) (mv mp : Nat) (V P : Int → Option Int) : Prop where
  hd : w.heap[e]? = some (.cells #[.pointer (some ⟨g, 0, none⟩), .int .i64 vars, .map (some mv), .map (some mp)] 64 (0, 0))
  vs : Im w mv V
  ps : Im w mp P
  ne : mv ≠ mp
theorem En.lt {w : World} {e g mv mp : Nat} {vars : Int} {V P : Int → Option Int} (h : En w e g vars mv mp V P) : e < w.heap.size := (Array.getElem?_eq_some_iff.1 h.hd).1
theorem En.sep {w : World} {e g mv mp : Nat} {vars : Int} {V P : Int → Option Int} (h : En w e g vars mv mp V P) : e ≠ mv ∧ e ≠ mp := by
  obtain ⟨es, cl, h1, -⟩ := h.vs
  obtain ⟨es', cl', h2, -⟩ := h.ps
  refine ⟨fun q => ?_, fun q => ?_⟩
  · rw [← q, h.hd] at h1; cases h1
  · rw [← q, h.hd] at h2; cases h2
theorem En.kept {w w' : World} {e g mv mp : Nat} {vars : Int} {V P : Int → Option Int} (h : En w e g vars mv mp V P) (hk : ∀ b, b = e ∨ b = mv ∨ b = mp → w'.heap[b]? = w.heap[b]?) : En w' e g vars mv mp V P :=
  ⟨(hk e (Or.inl rfl)).trans h.hd, h.vs.kept (hk mv (Or.inr (Or.inl rfl))), h.ps.kept (hk mp (Or.inr (Or.inr rfl))), h.ne⟩
theorem En.below {w w' : World} {e g mv mp : Nat} {vars : Int} {V P : Int → Option Int} (h : En w e g vars mv mp V P) (hb : Below w.heap.size w w') : En w' e g vars mv mp V P :=
  h.kept (fun b hq => hb.block b (by rcases hq with rfl | rfl | rfl; exact h.lt; exact h.vs.lt; exact h.ps.lt))
theorem room_any {w : World} {e g mv mp : Nat} {vars : Int} {V P : Int → Option Int} (h : En w e g vars mv mp V P) (h0 : 0 ≤ vars) (h1 : vars ≤ 1000000) :
    Calls Try.prog 42 #[.pointer (some ⟨e, 0, none⟩)] w fun ev w' => ev = .returned (.int .i64 (65536 - vars)) ∧ w' = w := by
  have c1 := cell_of h.hd 1 rfl
  clear h
  go_enter Try.func42, Try.ntmps42
  go_wp2_with fail
  go_ret
  exact ⟨rfl, rfl⟩
theorem vars_any {w : World} {e g mv mp : Nat} {vars : Int} {V P : Int → Option Int} (h : En w e g vars mv mp V P) :
    Calls Try.prog 9 #[.pointer (some ⟨e, 0, none⟩)] w fun ev w' => ev = .returned (.int .i64 vars) ∧ w' = w := by
  have c1 := cell_of h.hd 1 rfl
  clear h
  go_enter Try.func9, Try.ntmps9
  go_wp2_with fail
  go_ret
  exact ⟨rfl, rfl⟩
/-- Only these blocks have turned. -/
structure Tn (w w' : World) (F : Nat → Prop) : Prop where
  os : w'.os = w.os
  tape : w'.tape = w.tape
  output : w'.output = w.output
  size : w.heap.size ≤ w'.heap.size
  block : ∀ b, b < w.heap.size → ¬ F b → w'.heap[b]? = w.heap[b]?
theorem Tn.refl (w : World) (F : Nat → Prop) : Tn w w F := ⟨rfl, rfl, rfl, Nat.le_refl _, fun _ _ _ => rfl⟩
theorem Tn.trans {a b c : World} {F : Nat → Prop} (h : Tn a b F) (k : Tn b c F) : Tn a c F :=
  ⟨k.os.trans h.os, k.tape.trans h.tape, k.output.trans h.output, Nat.le_trans h.size k.size, fun q hq hf => (k.block q (Nat.lt_of_lt_of_le hq h.size) hf).trans (h.block q hq hf)⟩
theorem Tn.of_below {w w' : World} (F : Nat → Prop) (h : Below w.heap.size w w') : Tn w w' F := ⟨h.os, h.tape, h.output, h.size, fun b hb _ => h.block b hb⟩
theorem next_any {w : World} {e g mv mp : Nat} {vars : Int} {V P : Int → Option Int} (h : En w e g vars mv mp V P) (h0 : 0 ≤ vars) (h1 : vars ≤ 1000000) :
    Calls Try.prog 43 #[.pointer (some ⟨e, 0, none⟩)] w fun ev w' => ev = .returned (.int .i64 (vars + 1)) ∧ En w' e g (vars + 1) mv mp V P ∧ w'.heap.size = w.heap.size ∧ Tn w w' (fun b => b = e) := by
  have c1 := cell_of h.hd 1 rfl
  have f1 : w.frozen? ⟨e, 1, none⟩ = false := by simp [World.frozen?, h.hd]
  have hlt := h.lt
  have H : Hid _ := h
  clear h
  go_enter Try.func43, Try.ntmps43
  go_wp2_with fail
  go_ret
  have hh := heap_setCell_same w e 1 _ _ (.int .i64 (vars + 1)) H.out.hd
  obtain ⟨s1, s2⟩ := H.out.sep
  refine ⟨rfl, ⟨hh, H.out.vs.kept (heap_setCell_other _ _ _ _ (fun q => s1 q.symm)), H.out.ps.kept (heap_setCell_other _ _ _ _ (fun q => s2 q.symm)), H.out.ne⟩, by simp, ⟨rfl, rfl, rfl, by simp, fun b _ hb => heap_setCell_other _ _ _ _ hb⟩⟩
theorem fresh_any {w : World} {e g mv mp : Nat} {vars : Int} {V P : Int → Option Int} (h : En w e g vars mv mp V P) (h0 : 0 ≤ vars) (h1 : vars < 65536) :
    Calls Try.prog 30 #[.pointer (some ⟨e, 0, none⟩)] w fun ev w' => ev = .returned (.tuple #[.int .i64 (vars + 1), .int .i64 0]) ∧ En w' e g (vars + 1) mv mp V P ∧ w'.heap.size = w.heap.size ∧ Tn w w' (fun b => b = e) := by
  have HR : Hid _ := room_any h h0 (by omega)
  have HN : Hid _ := next_any h h0 (by omega)
  have hr : ¬ (65536 - vars < 1) := by omega
  clear h
  go_enter Try.func30, Try.ntmps30
  go_wp2_with fail
  refine Calls.mono HR.out ?_
  rintro ev w1 ⟨rfl, hw⟩
  rw [hw]
  clear hw w1
  go_wp2_with fail
  refine Calls.mono HN.out ?_
  rintro ev w1 ⟨rfl, hE, hs, hT⟩
  go_wp2_with fail
  go_ret2
  exact ⟨rfl, hE, hs, hT⟩
theorem of_any {w : World} {e g mv mp : Nat} {vars : Int} {V P : Int → Option Int} (h : En w e g vars mv mp V P) {n : Int} (hn : w64 n) :
    Calls Try.prog 20 #[.pointer (some ⟨e, 0, none⟩), .int .i64 n] w fun ev w' => ev = .returned (.tuple #[.int .i64 ((V n).getD 0), .bool (V n).isSome]) ∧ w' = w := by
  have c2 := cell_of h.hd 2 rfl
  have hl := h.vs.look2 hn
  clear h
  go_enter Try.func20, Try.ntmps20
  go_wp2_with fail
  go_ret2
  exact ⟨rfl, rfl⟩
theorem cnew_any (g : Nat) {first : Int} (h0 : 1 ≤ first) (h1 : first ≤ 1000000) (w : World) :
    Calls Try.prog 25 #[.pointer (some ⟨g, 0, none⟩), .int .i64 first] w fun ev w' => ev = .returned (.pointer (some ⟨w.heap.size + 2, 0, none⟩)) ∧ En w' (w.heap.size + 2) g (first - 1) w.heap.size (w.heap.size + 1) (fun _ => none) (fun _ => none) ∧ Below w.heap.size w w' := by
  have hmm := @run_makeMap Try.prog
  go_enter Try.func25, Try.ntmps25
  go_wp2_with fail
  go_ret
  rw [show max first 1 - 1 = first - 1 by omega]
  refine ⟨by first | rfl | simp, ⟨?_, ?_, ?_, by omega⟩, by go_grown⟩
  · have h2 := heap_alloc_new ((w.alloc (.map #[] 0)).alloc (.map #[] 0)) (.cells #[.pointer (some ⟨g, 0, none⟩), .int .i64 (first - 1), .map (some w.heap.size), .map (some (w.heap.size + 1))] 64)
    rw [size_alloc', size_alloc'] at h2
    first | exact h2 | simpa using h2
  · exact ((Im.made w).kept (heap_alloc_old _ _ (by simp))).kept (heap_alloc_old _ _ (by simp; omega))
  · have h2 := Im.made (w.alloc (.map #[] 0))
    rw [size_alloc'] at h2
    exact h2.kept (heap_alloc_old _ _ (by simp))
/-- A literal's clause literal. -/
def lit (V : Int → Option Int) (l : Nat) : Int := if l % 2 = 1 then - ((V ((l / 2 : Nat) : Int)).getD 0) else (V ((l / 2 : Nat) : Int)).getD 0
theorem drew_low (B : Nat) (w : World) : Below B w w.drew := ⟨rfl, rfl, rfl, Nat.le_refl _, fun _ _ => rfl⟩
set_option maxRecDepth 20000 in
set_option maxHeartbeats 3200000 in
theorem literal_any {w : World} {e g mv mp : Nat} {vars : Int} {V P : Int → Option Int} (h : En w e g vars mv mp V P) {l : Nat} (hl : l < 1000000) (hv : w64 ((V ((l / 2 : Nat) : Int)).getD 0)) (hp : 0 ≤ (V ((l / 2 : Nat) : Int)).getD 0) :
    Calls Try.prog 45 #[.pointer (some ⟨e, 0, none⟩), .int .i64 (l : Int)] w fun ev w' => ev = .returned (.int .i64 (lit V l)) ∧ Below w.heap.size w w' := by
  have HT : Hid (∀ wx, Calls Try.prog 53 #[.int .i64 (l : Int)] wx fun e w' => e = .returned (.int .i64 ((l % 2 : Nat) : Int)) ∧ w' = wx) := fun wx => turned_any hl wx
  have HN : Hid (∀ wx, Calls Try.prog 38 #[.int .i64 (l : Int)] wx fun e w' => e = .returned (.int .i64 ((l / 2 : Nat) : Int)) ∧ w' = wx) := fun wx => cnode_any l wx
  have c2 := cell_of h.hd 2 rfl
  have hlk := h.vs.look (k := ((l / 2 : Nat) : Int)) (by unfold w64; omega)
  have hlt := h.lt
  have HVS : Hid (Im w mv V) := h.vs
  unfold lit
  obtain ⟨n, hn⟩ : ∃ n, n = l / 2 := ⟨_, rfl⟩
  rw [← hn] at HN hlk hv hp ⊢
  have hn6 : w64 (n : Int) := by unfold w64; omega
  obtain ⟨x, hx⟩ : ∃ x, x = (V (n : Int)).getD 0 := ⟨_, rfl⟩
  rw [← hx] at hv hp hlk ⊢
  have HLK : Hid (∀ wx, wx.heap[mv]? = w.heap[mv]? → (Instr.lookup 62 (.map (some mv)) (.int .i64 (n : Int)) false).run Try.prog wx = .ok (.int .i64 x) wx) := fun wx hq => by rw [hx]; exact (Im.kept HVS.out hq).look hn6
  have hw := hv
  unfold w64 at hw
  clear h hn hx hl
  rcases Nat.mod_two_eq_zero_or_one l with q | q
  · rw [q] at HT ⊢
    clear q
    go_enter Try.func45, Try.ntmps45
    go_wp2_with fail
    refine (HT.out _).mono ?_
    rintro ev w1 ⟨rfl, hw1⟩
    rw [hw1]
    clear hw1 w1
    go_wp2_with fail
    go_region_held3 (fun y => y.cell? ⟨e, 2, none⟩ = some (.map (some mv)) ∧ (Instr.lookup 62 (.map (some mv)) (.int .i64 (n : Int)) false).run Try.prog y = .ok (.int .i64 x) y ∧ Below w.heap.size w y)
      (exact ⟨c2, HLK.out _ rfl, drew_low _ _⟩)
      ((go_at_call 38; refine (HN.out _).mono ?_; rintro ev wz ⟨rfl, hq⟩; subst hq))
    go_wp2_with fail
    go_ret
    exact ⟨by first | rfl | (simp; done) | (simp; rw [IntKind.wrap_i64]; omega), drew_low _ _⟩
  · rw [q] at HT ⊢
    clear q
    go_enter Try.func45, Try.ntmps45
    go_wp2_with fail
    refine (HT.out _).mono ?_
    rintro ev w1 ⟨rfl, hw1⟩
    rw [hw1]
    clear hw1 w1
    go_wp2_with fail
    go_region_held3 (fun y => y.cell? ⟨e, 2, none⟩ = some (.map (some mv)) ∧ (Instr.lookup 62 (.map (some mv)) (.int .i64 (n : Int)) false).run Try.prog y = .ok (.int .i64 x) y ∧ Below w.heap.size w y)
      (exact ⟨c2, HLK.out _ rfl, drew_low _ _⟩)
      ((go_at_call 38; refine (HN.out _).mono ?_; rintro ev wz ⟨rfl, hq⟩; subst hq))
    go_wp2_with fail
    go_ret
    exact ⟨by first | rfl | (simp; done) | (simp; rw [IntKind.wrap_i64]; omega), drew_low _ _⟩
end Go.Proofs.Ytajpnlmglkifcaa
