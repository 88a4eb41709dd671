/- What a node was made as stays so when the graph has grown. -/
import Derived.Test.YtjmbicaacplolaaY11
namespace Go.Proofs.Ytjmbicaacplolaa
open Go.RowKit
set_option linter.unusedSimpArgs false
set_option linter.unusedVariables false

theorem opB_more {N M : Nat} {k j x : Int} (h : N ≤ M) (ho : opB N k j x = true) : opB M k j x = true := by
  unfold opB at ho ⊢
  split
  · rename_i hj
    rw [if_pos hj] at ho
    have : 1 ≤ x ∧ x ≤ (N : Int) := by simpa [hasB] using ho
    simp [hasB]
    omega
  · rename_i hj
    rw [if_neg hj] at ho
    exact ho
theorem prt_more {N M : Nat} {n : Nd} (h : N ≤ M) (hp : prt N n = true) : prt M n = true := by
  rw [prt_eq rfl] at hp ⊢
  simp only [Bool.and_eq_true] at hp ⊢
  obtain ⟨⟨⟨⟨⟨h0, ha⟩, hb⟩, hc⟩, hv⟩, hn⟩ := hp
  exact ⟨⟨⟨⟨⟨h0, opB_more h ha⟩, opB_more h hb⟩, opB_more h hc⟩, hv⟩, hn⟩
theorem sAt_more {ns r : List Nd} {x : Int} (h : hasB ns.length x = true) : sAt (ns ++ r) x = sAt ns x := by
  obtain ⟨i, m, hi, rfl⟩ := has_node h
  have hl : i < ns.length := (List.getElem?_eq_some_iff.1 hi).1
  rw [sAt_of hi, sAt_of (by rw [List.getElem?_append_left hl]; exact hi)]
theorem oss_more {ns r : List Nd} {n : Nd} (hp : prt ns.length n = true) : oss (ns ++ r) n = oss ns n := by
  have h3 := ari_le n.op
  rw [prt_eq rfl] at hp
  simp only [Bool.and_eq_true, decide_eq_true_eq] at hp
  obtain ⟨⟨⟨⟨⟨h0, ha⟩, hb⟩, hc⟩, -⟩, -⟩ := hp
  unfold oss
  have hx : ari n.op = 0 ∨ ari n.op = 1 ∨ ari n.op = 2 ∨ ari n.op = 3 := by omega
  rcases hx with e | e | e | e
  · rw [e]; rfl
  · rw [e] at ha ⊢
    have ha' : hasB ns.length n.a = true := by rw [opB, if_pos (by decide)] at ha; exact ha
    show [sAt (ns ++ r) n.a] = [sAt ns n.a]
    rw [sAt_more ha']
  · rw [e] at ha hb ⊢
    have ha' : hasB ns.length n.a = true := by rw [opB, if_pos (by decide)] at ha; exact ha
    have hb' : hasB ns.length n.b = true := by rw [opB, if_pos (by decide)] at hb; exact hb
    show [sAt (ns ++ r) n.a, sAt (ns ++ r) n.b] = [sAt ns n.a, sAt ns n.b]
    rw [sAt_more ha', sAt_more hb']
  · rw [e] at ha hb hc ⊢
    have ha' : hasB ns.length n.a = true := by rw [opB, if_pos (by decide)] at ha; exact ha
    have hb' : hasB ns.length n.b = true := by rw [opB, if_pos (by decide)] at hb; exact hb
    have hc' : hasB ns.length n.c = true := by rw [opB, if_pos (by decide)] at hc; exact hc
    show [sAt (ns ++ r) n.a, sAt (ns ++ r) n.b, sAt (ns ++ r) n.c] = [sAt ns n.a, sAt ns n.b, sAt ns n.c]
    rw [sAt_more ha', sAt_more hb', sAt_more hc']
/-- The sort stays. -/
theorem srt_stays {ns r : List Nd} {n : Nd} {s : Int} (hs : srtOf ns n = (s, 0)) (hv : Inv (ns ++ r)) (hin : n.wi s ∈ ns ++ r) : srtOf (ns ++ r) n = (s, 0) := by
  have hp : prt ns.length n = true := by
    cases e : prt ns.length n
    · unfold srtOf at hs; rw [if_pos e] at hs; cases hs
    · rfl
  have hp2 : prt (ns ++ r).length n = true := prt_more (by rw [List.length_append]; omega) hp
  unfold srtOf at hs ⊢
  rw [if_neg (by simp [hp])] at hs
  rw [if_neg (by rw [hp2]; decide)]
  by_cases h1 : n.op = 1
  · rw [if_pos h1] at hs ⊢
    exact hs
  · rw [if_neg h1] at hs ⊢
    by_cases h2 : n.op = 2
    · rw [if_pos h2] at hs ⊢
      by_cases hq : (srt n.s && decide (n.p = 0) && decide (n.q = 0)) = true
      · rw [if_pos hq] at hs ⊢
        by_cases hc : (n.nm.size == 0 || clash ns n) = true
        · rw [if_pos hc] at hs; cases hs
        · rw [if_neg hc] at hs
          have e : n.s = s := by cases hs; rfl
          have hcl : clash (ns ++ r) n = false := by
            rw [clash_some (n := n) hv hin h2 rfl]
            simp [Nd.wi, e]
          simp only [Bool.or_eq_true, not_or, Bool.not_eq_true] at hc
          rw [if_neg (by rw [hc.1, hcl]; decide)]
          exact hs
      · rw [if_neg hq] at hs; cases hs
    · rw [if_neg h2] at hs ⊢
      rw [oss_more hp]
      exact hs
end Go.Proofs.Ytjmbicaacplolaa
