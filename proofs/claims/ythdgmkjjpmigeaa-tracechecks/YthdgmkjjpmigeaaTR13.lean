/- Contracts (traces): clause. -/
import Derived.Test.YthdgmkjjpmigeaaTR12
namespace Go.Proofs.Ythdgmkjjpmigeaa
open Go.RowKit
set_option linter.unusedSimpArgs false
set_option linter.unusedVariables false

/-- The clause that has a number. -/
def clF (G D : List (List Int)) (x : Int) : Option (List Int) :=
  if x < 0 ∨ (G.length : Int) + (D.length : Int) ≤ x then none
  else if (G.length : Int) ≤ x then D[(x - (G.length : Int)).toNat]?
  else match G[x.toNat]? with
    | some c => if c.any noL then none else some c
    | none => none
/-- It is a slice. -/
structure IsSl (u : Value) : Prop where
  ex : ∃ a n k, u = .slice a n k
/-- The table at t: the given clauses, the derived ones. -/
structure Tb (w : World) (t : Nat) (vg vd : Value) (G D : List (List Int)) : Prop where
  c0 : w.cell? ⟨t, 0, none⟩ = some vg
  c1 : w.cell? ⟨t, 1, none⟩ = some vd
  g : Lr w vg G
  d : Lr w vd D
theorem Tb.below {w w' : World} {t : Nat} {vg vd : Value} {G D : List (List Int)} (h : Tb w t vg vd G D) (hb : Below w.heap.size w w') : Tb w' t vg vd G D :=
  ⟨bel_cell hb (World.block_lt_of_cell? _ _ h.c0) h.c0, bel_cell hb (World.block_lt_of_cell? _ _ h.c1) h.c1, h.g.below hb, h.d.below hb⟩
set_option maxRecDepth 20000 in
set_option maxHeartbeats 6400000 in
theorem clause_any {w : World} {t : Nat} {vg vd : Value} {G D : List (List Int)} (h : Tb w t vg vd G D) (hG : G.length ≤ 10000) (hD : D.length ≤ 10000) (hGl : ∀ x ∈ G, x.length ≤ 10000) (x : Int) (hx : w64 x) :
    Calls Try.prog 53 #[.pointer (some ⟨t, 0, none⟩), .int .i64 x] w fun ev w' => ∃ (u : Value) (b : Bool), ev = .returned (.tuple #[u, .bool b]) ∧ b = (clF G D x).isSome ∧ IsSl u ∧ (∀ c, clF G D x = some c → Sr w u c) ∧ Below w.heap.size w w' := by
  obtain ⟨ag, cg, eg⟩ := h.g.out
  obtain ⟨ad, cd, ed⟩ := h.d.out
  obtain ⟨ng, hng⟩ : ∃ n, n = G.length := ⟨_, rfl⟩
  obtain ⟨nd, hnd⟩ : ∃ n, n = D.length := ⟨_, rfl⟩
  rw [← hng] at eg hG
  rw [← hnd] at ed hD
  subst eg ed
  have HT : Hid _ := h
  have c0 := h.c0
  have c1 := h.c1
  have HN : Hid (ng = G.length ∧ nd = D.length) := ⟨hng, hnd⟩
  have HGL : Hid _ := hGl
  have htw : t < w.heap.size := World.block_lt_of_cell? _ _ c0
  obtain ⟨Z, hZ⟩ : ∃ Z, Z = clF G D x := ⟨_, rfl⟩
  rw [← hZ]
  have HZ : Hid _ := hZ
  clear h hng hnd hGl hZ
  by_cases h0 : x < 0
  · have HZZ : Hid (Z = none) := by unfold Hid; rw [HZ.out]; unfold clF; rw [if_pos (Or.inl h0)]
    have hd0 : decide (x < 0) = true := decide_eq_true h0
    clear hx
    go_enter Try.func53, Try.ntmps53
    go_wp2_with fail
    go_quiet (fail)
    go_wp2_with fail
    go_ret2
    refine ⟨_, _, rfl, by rw [HZZ.out]; rfl, ⟨⟨_, _, _, rfl⟩⟩, fun c hc => (by rw [HZZ.out] at hc; cases hc), ⟨rfl, rfl, rfl, Nat.le_refl _, fun _ _ => rfl⟩⟩
  · obtain ⟨k, rfl⟩ : ∃ k : Nat, x = (k : Int) := ⟨x.toNat, by omega⟩
    have hd0 : decide ((k : Int) < 0) = false := decide_eq_false h0
    clear hx h0
    by_cases h1 : ng + nd ≤ k
    · have h1I : (ng : Int) + (nd : Int) ≤ (k : Int) := by omega
      have HZZ : Hid (Z = none) := by unfold Hid; rw [HZ.out]; unfold clF; rw [if_pos (Or.inr (by rw [← HN.out.1, ← HN.out.2]; exact h1I))]
      go_enter Try.func53, Try.ntmps53
      go_wp2_with fail
      go_quiet (fail)
      go_wp2_with fail
      go_ret2
      refine ⟨_, _, rfl, by rw [HZZ.out]; rfl, ⟨⟨_, _, _, rfl⟩⟩, fun c hc => (by rw [HZZ.out] at hc; cases hc), ⟨rfl, rfl, rfl, Nat.le_refl _, fun _ _ => rfl⟩⟩
    · have h1I : ¬ (ng : Int) + (nd : Int) ≤ (k : Int) := by omega
      by_cases h2 : ng ≤ k
      · have h2I : (ng : Int) ≤ (k : Int) := by omega
        obtain ⟨j, hj⟩ : ∃ j, k = ng + j := ⟨k - ng, by omega⟩
        have hjd : j < nd := by omega
        have hsub : (k : Int) - (ng : Int) = (j : Int) := by omega
        obtain ⟨d, hd⟩ : ∃ d, D[j]? = some d := ⟨_, List.getElem?_eq_getElem (by rw [← HN.out.2]; exact hjd)⟩
        have HZZ : Hid (Z = some d) := by
          unfold Hid
          rw [HZ.out]; unfold clF
          rw [if_neg (by rw [← HN.out.1, ← HN.out.2]; omega), if_pos (by rw [← HN.out.1]; exact h2I), ← HN.out.1, hsub]; simpa using hd
        obtain ⟨r, o, u, rfl, hcu, hSu⟩ := HT.out.d.at' hd
        have hrw : r < w.heap.size := World.block_lt_of_cell? _ _ hcu
        have HSU : Hid (Sr w u d) := hSu
        obtain ⟨au, nu, ku, hue, -⟩ := hSu.sl
        subst hue
        have hjI : (j : Int) < (nd : Int) := by omega
        clear hd hSu hj
        go_enter Try.func53, Try.ntmps53
        go_wp2_with fail
        go_quiet (fail)
        go_wp2_with fail
        go_quiet (fail)
        go_wp2_with fail
        go_ret2
        refine ⟨_, _, rfl, by rw [HZZ.out]; rfl, ⟨⟨_, _, _, rfl⟩⟩, fun c hc => ?_, ⟨rfl, rfl, rfl, Nat.le_refl _, fun _ _ => rfl⟩⟩
        rw [HZZ.out] at hc
        injection hc with hc
        rw [← hc]; exact HSU.out
      · have h2I : ¬ (ng : Int) ≤ (k : Int) := by omega
        have hkg : k < ng := by omega
        obtain ⟨d, hd⟩ : ∃ d, G[k]? = some d := ⟨_, List.getElem?_eq_getElem (by rw [← HN.out.1]; exact hkg)⟩
        have HZZ : Hid (Z = if d.any noL then none else some d) := by
          unfold Hid
          rw [HZ.out]; unfold clF
          rw [if_neg (by rw [← HN.out.1, ← HN.out.2]; omega), if_neg (by rw [← HN.out.1]; exact h2I), Int.toNat_natCast, hd]
        obtain ⟨r, o, u, rfl, hcu, hSu⟩ := HT.out.g.at' hd
        have hrw : r < w.heap.size := World.block_lt_of_cell? _ _ hcu
        have HSU : Hid (Sr w u d) := hSu
        have HCF : Hid (∀ wx, Below w.heap.size w wx → Calls Try.prog 34 #[u, .func (.func 58) #[] #[]] wx fun e w' => e = .returned (.bool (d.any noL)) ∧ w' = wx) := fun wx hb => containsL_any (hSu.below hb) (by have := HGL.out d (List.mem_of_getElem? hd); omega)
        obtain ⟨au, nu, ku, hue, -⟩ := hSu.sl
        subst hue
        obtain ⟨b, hb⟩ : ∃ b, b = d.any noL := ⟨_, rfl⟩
        rw [← hb] at HCF HZZ
        have hkI : (k : Int) < (ng : Int) := by omega
        clear hd hSu hb
        go_enter Try.func53, Try.ntmps53
        go_wp2_with fail
        go_quiet (fail)
        go_wp2_with fail
        refine Calls.mono (HCF.out _ ⟨rfl, rfl, rfl, Nat.le_refl _, fun _ _ => rfl⟩) ?_
        rintro ev w2 ⟨rfl, hw2⟩
        rw [hw2]
        clear hw2 w2
        go_wp2_with fail
        go_ret2
        cases b with
        | true => exact ⟨_, _, rfl, by rw [HZZ.out]; rfl, ⟨⟨_, _, _, rfl⟩⟩, fun c hc => (by rw [HZZ.out] at hc; simp at hc), ⟨rfl, rfl, rfl, Nat.le_refl _, fun _ _ => rfl⟩⟩
        | false =>
          refine ⟨_, _, rfl, by rw [HZZ.out]; rfl, ⟨⟨_, _, _, rfl⟩⟩, fun c hc => ?_, ⟨rfl, rfl, rfl, Nat.le_refl _, fun _ _ => rfl⟩⟩
          rw [HZZ.out] at hc
          simp at hc
          rw [← hc]; exact HSU.out
end Go.Proofs.Ythdgmkjjpmigeaa
