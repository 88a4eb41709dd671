/- Contracts (store): literals, Clause, watching, makeRoom. -/
import Derived.Test.YtkndjndhjdfhcaaST7
namespace Go.Proofs.Ytkndjndhjdfhcaa
open Go.RowKit
set_option linter.unusedSimpArgs false
set_option linter.unusedVariables false

theorem Al.refl (w : World) : Al w w := ⟨rfl, rfl, rfl, rfl⟩
theorem Al.trans {a b c : World} (h : Al a b) (k : Al b c) : Al a c := ⟨k.os.trans h.os, k.tape.trans h.tape, k.output.trans h.output, k.heap.trans h.heap⟩
theorem Al.cell {w w' : World} (h : Al w w') (a : Addr) : w'.cell? a = w.cell? a := by simp [World.cell?, h.heap]
theorem Al.frozen {w w' : World} (h : Al w w') (a : Addr) : w'.frozen? a = w.frozen? a := by simp [World.frozen?, h.heap]
theorem Al.below {w w' : World} (h : Al w w') (B : Nat) : Below B w w' := ⟨h.os, h.tape, h.output, by rw [h.heap]; omega, fun k _ => by rw [h.heap]⟩
theorem Al.drewN (w : World) (n : Nat) : Al w (w.drewN n) := ⟨rfl, rfl, rfl, rfl⟩
section
variable {w : World} {s : Nat}
/-- The slice of a clause's literals in the arena. -/
def litV (ra fr n : Nat) : Value := .slice (some ⟨ra, if n = 0 then fr else fr + 2, none⟩) n n
set_option maxHeartbeats 1600000 in
theorem literals_q {k ra fr to : Nat} (h : Pc w s k ra fr to) :
    Calls Try.prog 34 #[.pointer (some ⟨s, 0, none⟩), .int .i64 (k : Int)] w fun e w' => e = .returned (litV ra fr (to - fr - 2)) ∧ ∃ m, w' = w.drewN m := by
  have HW : Hid _ := words_q h
  obtain ⟨rb, nb, cb, na, ca, -, -, -, -, -, -, h1, h2, h3, h4⟩ := h.ex
  clear h
  obtain ⟨n, rfl⟩ : ∃ n, to = fr + n + 2 := ⟨to - fr - 2, by omega⟩
  have e1 : fr + n + 2 - fr = n + 2 := by omega
  have e2 : fr + n + 2 - fr - 2 = n := by omega
  rw [e1] at HW
  rw [e2]
  obtain ⟨V, hV⟩ : ∃ V, V = litV ra fr n := ⟨_, rfl⟩
  rw [← hV]
  have HV : Hid _ := hV
  clear e1 e2 hV
  go_enter Try.func34, Try.ntmps34
  go_wp2_with fail
  refine Calls.mono HW.out ?_
  rintro ev w1 ⟨rfl, m, hw1⟩
  rw [hw1]
  clear hw1 w1
  by_cases hn : n = 0
  · subst hn
    go_wp2_with fail
    go_ret
    exact ⟨by rw [HV.out]; rfl, m, rfl⟩
  · go_wp2_with fail
    go_ret
    refine ⟨?_, m, rfl⟩
    rw [HV.out]
    unfold litV
    rw [if_neg hn]
    rfl
theorem literals_any {k ra fr to : Nat} (h : Pc w s k ra fr to) :
    Calls Try.prog 34 #[.pointer (some ⟨s, 0, none⟩), .int .i64 (k : Int)] w fun e w' => (∃ a, e = .returned (.slice a (to - fr - 2) (to - fr - 2)) ∧ (fr + 2 < to → a = some ⟨ra, fr + 2, none⟩)) ∧ Al w w' := by
  refine (literals_q h).mono ?_
  rintro e w' ⟨rfl, m, rfl⟩
  refine ⟨⟨_, rfl, fun h => ?_⟩, Al.drewN w m⟩
  rw [if_neg (by omega)]
theorem watching_none {l : Int} (hl : sm l) {a : Option Addr} {n c : Nat} (h : w.cell? ⟨s, 4, none⟩ = some (.slice a n c)) (hn : n ≤ cd l) (hn2 : n ≤ 1000000) :
    Calls Try.prog 36 #[.pointer (some ⟨s, 0, none⟩), .int .i64 l] w fun e w' => e = .returned (.slice none 0 0) ∧ w' = w := by
  have HC : Hid _ := code_any hl w
  have hcl := cd_le hl
  obtain ⟨C, hC⟩ : ∃ C, C = cd l := ⟨_, rfl⟩
  rw [← hC] at HC hn hcl
  have hn' : (n : Int) ≤ (C : Int) := by omega
  clear hC
  go_enter Try.func36, Try.ntmps36
  go_wp2_with fail
  refine Calls.mono HC.out ?_
  rintro ev w1 ⟨rfl, hw⟩
  rw [hw]
  clear hw w1
  go_wp2_with fail
  go_ret
  exact ⟨rfl, rfl⟩
theorem watching_some {l : Int} (hl : sm l) {R n c : Nat} {u : Value} (h : w.cell? ⟨s, 4, none⟩ = some (.slice (some ⟨R, 0, none⟩) n c)) (hn : cd l < n) (hn2 : n ≤ 1000000) (hu : w.cell? ⟨R, cd l, none⟩ = some u) :
    Calls Try.prog 36 #[.pointer (some ⟨s, 0, none⟩), .int .i64 l] w fun e w' => e = .returned u ∧ w' = w := by
  have HC : Hid _ := code_any hl w
  have hcl := cd_le hl
  obtain ⟨C, hC⟩ : ∃ C, C = cd l := ⟨_, rfl⟩
  rw [← hC] at HC hn hcl hu
  have hn' : (C : Int) < (n : Int) := by omega
  clear hC
  go_enter Try.func36, Try.ntmps36
  go_wp2_with fail
  refine Calls.mono HC.out ?_
  rintro ev w1 ⟨rfl, hw⟩
  rw [hw]
  clear hw w1
  go_wp2_with fail
  go_ret
  exact ⟨rfl, rfl⟩
end
theorem Fam.keep {w w' : World} {F : Nat → Prop} {us : List Value} {X : List (List Int)} (h : Fam w F us X) (hk : ∀ k, (∃ (j : Nat) (v : Value), us[j]? = some v ∧ v.ownBlock = some k) → w'.heap[k]? = w.heap[k]?) : Fam w' F us X :=
  ⟨h.len, fun i u x hu hx => row_own (h.row i u x hu hx) (fun b hb => hk b ⟨i, u, hu, hb⟩), h.foot, h.sep⟩
/-- Lists of watches are put behind. -/
theorem St.grow {w w1 : World} {F : Nat → Prop} {s mo : Nat} {va vb vs vw v' : Value} {us : List Value} {A B S : List Int} {W : List (List Int)} (h : St w F s mo va vb vs vw us A B S W) {k : Nat} (hg : w.grownBy w1 vw.ownBlock) (ho : w1.ownsRow 0 27 1 v' (us.length + k) (us ++ List.replicate k (.slice none 0 0))) (hat : v'.ownBlock = vw.ownBlock ∨ v'.ownBlock = some w.heap.size) :
    St (w1.setCell ⟨s, 4, none⟩ v') (more F w (w1.setCell ⟨s, 4, none⟩ v')) s mo va vb vs v' (us ++ List.replicate k (.slice none 0 0)) A B S (W ++ List.replicate k []) ∧ Ch w (w1.setCell ⟨s, 4, none⟩ v') F (more F w (w1.setCell ⟨s, 4, none⟩ v')) := by
  have hsl := h.lt
  have h1 : w1.heap[s]? = some (.cells #[.int .i64 (mo : Int), va, vb, vs, vw] 54) := (hg.block s hsl (fun e => h.ws e.symm)).trans h.hd
  have hz := hg.size
  have hsz : (w1.setCell ⟨s, 4, none⟩ v').heap.size = w1.heap.size := by rw [World.size_setCell]
  have hne : v'.ownBlock ≠ some s := by
    rcases hat with e | e
    · rw [e]; exact h.ws
    · rw [e]; intro q; injection q; omega
  have hkp : ∀ q, q < w.heap.size → vw.ownBlock ≠ some q → q ≠ s → (w1.setCell ⟨s, 4, none⟩ v').heap[q]? = w.heap[q]? := fun q hq h2 h3 => (heap_setCell_other _ _ _ _ h3).trans (hg.block q hq (fun e => h2 e.symm))
  refine ⟨⟨by rw [heap_setCell_same _ _ _ _ _ _ h1]; rfl, ?_, ?_, Or.inl h.fs, fun b hb => ?_⟩, ⟨hg.os, hg.tape, hg.output, by rw [hsz]; exact hz, fun q hq hn => hkp q hq (fun e => hn (h.fw q e)) (fun e => hn (by rw [e]; exact h.fs)), fun _ h => h⟩⟩
  · rw [List.length_append, List.length_replicate]; exact row_far ho hne
  · have h2 := (h.fam.keep (w' := w1.setCell ⟨s, 4, none⟩ v') (fun q ⟨j, v, hv, hb⟩ => hkp q (h.fam.lt hv hb) (fun e => h.now hv e hb) (fun e => h.nos hv (by rw [← e]; exact hb)))).mono (F' := more F w (w1.setCell ⟨s, 4, none⟩ v')) (fun _ h => Or.inl h)
    exact h2.more k
  · rcases hat with e | e
    · exact Or.inl (h.fw b (by rw [← e]; exact hb))
    · rw [e] at hb; cases hb
      refine Or.inr ⟨Nat.le_refl _, ?_⟩
      rw [hsz]
      exact (ho.lt _ e).2
set_option maxRecDepth 20000 in
set_option maxHeartbeats 3200000 in
theorem makeRoom_any {w : World} {F : Nat → Prop} {s mo : Nat} {A B S : List Int} {W : List (List Int)} (h : SX w F s mo A B S W) {l : Int} (hl : sm l) (hW : W.length ≤ 1000000) :
    Calls Try.prog 42 #[.pointer (some ⟨s, 0, none⟩), .int .i64 l] w fun e w' => e = .returned (.tuple #[]) ∧ ∃ F', SX w' F' s mo A B S (W ++ List.replicate (sp l - W.length) []) ∧ Ch w w' F F' := by
  obtain ⟨va, vb, vs, vw, us, h⟩ := h
  have HS : Hid (∀ wx, Calls Try.prog 49 #[.int .i64 l] wx fun e w' => e = .returned (.int .i64 (sp l : Int)) ∧ w' = wx) := fun wx => span_any hl wx
  have hspl : sp l ≤ 131074 := by unfold sm at hl; unfold sp; omega
  have c4 : w.cell? ⟨s, 4, none⟩ = some vw := cell_of h.hd 4 rfl
  have hlen := h.len
  obtain ⟨aw, kw, hvw⟩ := own_slice h.row
  rw [hlen] at hvw
  have H : Hid _ := h
  have hsl := h.lt
  obtain ⟨P, hP⟩ : ∃ P, P = sp l := ⟨_, rfl⟩
  obtain ⟨n, hn⟩ : ∃ n, n = W.length := ⟨_, rfl⟩
  rw [← hP] at HS hspl ⊢
  rw [← hn] at hvw hW hlen ⊢
  rw [hvw] at c4
  have HVW : Hid _ := hvw
  have HLN : Hid _ := hlen
  clear h hP hn hvw hlen hl
  by_cases hlt : n < P
  · obtain ⟨k, hk⟩ : ∃ k, k = P - n := ⟨_, rfl⟩
    rw [← hk]
    have hsub : (P : Int) - (n : Int) = (k : Int) := by omega
    have hk0 : (0 : Int) < (k : Int) := by omega
    have hk1 : k ≤ 1000000 := by omega
    have HD : Hid (∀ m, St (w.drewN m) F s mo va vb vs vw us A B S W) := fun m => H.out.kept (fun _ _ _ => rfl)
    clear hk hlt
    go_enter Try.func42, Try.ntmps42
    go_wp2_with fail
    go_quiet ((go_at_call 49; refine Calls.quiet_of_same (HS.out _)))
    obtain ⟨wd, hwd⟩ : ∃ wd, wd = w.drewN nq := ⟨_, rfl⟩
    rw [← hwd]
    have HD2 : Hid (St wd F s mo va vb vs vw us A B S W ∧ Al w wd) := by
      unfold Hid
      rw [hwd]; exact ⟨HD.out nq, Al.drewN w nq⟩
    have c4d : wd.cell? ⟨s, 4, none⟩ = some (.slice aw n kw) := by rw [hwd]; exact c4
    have hsd : s < wd.heap.size := HD2.out.1.lt
    have f4 : wd.frozen? ⟨s, 4, none⟩ = false := by simp [World.frozen?, HD2.out.1.hd]
    obtain ⟨v', w1, hr, ho, hg, hat⟩ := run_append_zeros wd 22 HD2.out.1.row k hk1 (by have := HLN.out; omega) (Nat.zero_le _)
    rw [HVW.out] at hr
    obtain ⟨a1, k1, hv1⟩ := own_slice ho
    subst hv1
    have hhd : w1.heap[s]? = some (.cells #[.int .i64 (mo : Int), va, vb, vs, vw] 54) := (hg.block s hsd (fun e => HD2.out.1.ws e.symm)).trans HD2.out.1.hd
    have c41 : w1.cell? ⟨s, 4, none⟩ = some vw := cell_of hhd 4 rfl
    have f41 : w1.frozen? ⟨s, 4, none⟩ = false := by simp [World.frozen?, hhd]
    have HEND : Hid _ := HD2.out.1.grow hg ho hat
    have HR : Hid _ := hr
    obtain ⟨m1, hm1⟩ : ∃ m, m = us.length + k := ⟨_, rfl⟩
    rw [← hm1] at HEND HR
    clear hwd hr ho hg hat hhd hm1
    go_wp2_with (at_builtin; refine wpList_app_eq _ rfl _ _ _ _ rfl _ _ rfl rfl HR.out ?_)
    go_end0
    exact ⟨rfl, _, ⟨_, _, _, _, _, HEND.out.1⟩, (Ch.of_below F (HD2.out.2.below _)).trans HEND.out.2⟩
  · have e0 : P - n = 0 := by omega
    rw [e0, List.replicate_zero, List.append_nil]
    have hsub : ¬ ((0 : Int) < (P : Int) - (n : Int)) := by omega
    go_enter Try.func42, Try.ntmps42
    go_wp2_with fail
    go_quiet ((go_at_call 49; refine Calls.quiet_of_same (HS.out _)))
    go_wp2_with fail
    go_end0
    exact ⟨rfl, F, ⟨_, _, _, _, _, H.out.kept (fun _ _ _ => rfl)⟩, Ch.of_below F ((Al.drewN w _).below _)⟩
end Go.Proofs.Ytkndjndhjdfhcaa
