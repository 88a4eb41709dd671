/- Contracts (traces): join. -/
import Derived.Test.YthdgmkjjpmigeaaTR10
namespace Go.Proofs.Ythdgmkjjpmigeaa
open Go.RowKit
set_option linter.unusedSimpArgs false
set_option linter.unusedVariables false

/-- What join leaves. -/
def joinB (S : Int → Bool) (c : List Int) (p : Int) (x : Int) : Bool := (S x && decide (x ≠ p)) || (decide (x ∈ c) && decide (x ≠ -p))
theorem joinB_nil (S : Int → Bool) (p : Int) : joinB S [] p = fun x => S x && decide (x ≠ p) := by funext x; simp [joinB]
theorem joinB_in {S : Int → Bool} {c : List Int} {p l : Int} {k : Nat} (h : c[k]? = some l) (hl : l ≠ -p) : joinB S (c.take (k + 1)) p = fun x => joinB S (c.take k) p x || decide (x = l) := by
  funext x
  unfold joinB
  rw [List.take_add_one, h]
  by_cases e : x = l
  · subst e; simp [hl]
  · simp [e]
theorem joinB_out {S : Int → Bool} {c : List Int} {p l : Int} {k : Nat} (h : c[k]? = some l) (hl : l = -p) : joinB S (c.take (k + 1)) p = joinB S (c.take k) p := by
  funext x
  unfold joinB
  rw [List.take_add_one, h]
  by_cases e : x = l
  · subst e; simp [hl]
  · simp [e]
set_option maxRecDepth 20000 in
set_option maxHeartbeats 6400000 in
theorem join_any {w : World} {b n : Nat} {S : Int → Bool} (hM : Mk w b n S) (hn : n ≤ 10000000) {u : Value} {c : List Int} (hu : Sr w u c) (hl : c.length ≤ 100000) (hc : ∀ x ∈ c, okZ x = true) {p : Int} (hp : -2147483647 ≤ p ∧ p ≤ 2147483647) :
    Calls Try.prog 55 #[.map (some b), u, .int .i64 p] w fun ev w' => ev = .returned (.tuple #[]) ∧ Mk w' b (n + c.length) (joinB S c p) ∧ w.grownBy w' (some b) ∧ w'.heap.size = w.heap.size := by
  have hp1 : -2147483647 ≤ p := hp.1
  have hp2 : p ≤ 2147483647 := hp.2
  obtain ⟨w1, hdel, hM1, hg1, hs1⟩ := hM.del (k := p) (by unfold w64; omega) 0
  have HM1 : Hid (Mk w1 b n (fun x => S x && decide (x ≠ p)) ∧ w.grownBy w1 (some b) ∧ w1.heap.size = w.heap.size) := ⟨hM1, hg1, hs1⟩
  clear hM1 hg1 hs1
  have hMne : ∀ (r o : Nat), c ≠ [] → (∃ m k, u = .slice (some ⟨r, o, none⟩) m k) → r ≠ b := fun r o hne ⟨m, k, e⟩ => by
    obtain ⟨a', c', e', h2⟩ := hu.ex
    rw [e] at e'
    injection e' with e1
    rcases h2 with h2 | ⟨r', o', e2, h3, h4⟩
    · exact absurd h2 hne
    · rw [← e1] at e2
      injection e2 with e2
      injection e2 with e2 e3
      subst e2 e3
      intro hrb
      subst hrb
      obtain ⟨D, ⟨es, cl, h1, -⟩, -⟩ := hM.ex
      have := h4 0 (List.length_pos_iff.2 hne)
      simp [World.cell?, h1] at this
  have HNE : Hid _ := hMne
  have HC : Hid _ := hu
  have HO : Hid _ := hc
  obtain ⟨a, k0, rfl⟩ := hu.out
  obtain ⟨m, hm⟩ : ∃ m, m = c.length := ⟨_, rfl⟩
  rw [← hm] at HC hl HNE ⊢
  have HN : Hid _ := hm
  clear hM hu hc hm hMne hp
  go_enter Try.func55, Try.ntmps55
  go_wp2_with fail
  go_loopw [12] (fun i wr => ∃ k : Nat, k ≤ m ∧ i = .int .i64 (k : Int) ∧ Hid (Mk wr b (n + k) (joinB S (c.take k) p) ∧ w.grownBy wr (some b) ∧ wr.heap.size = w.heap.size)) (fun i wr => m - (intOf i).toNat)
  case atStart => exact ⟨0, Nat.zero_le _, rfl, by rw [List.take_zero, joinB_nil]; exact HM1.out.1, HM1.out.2.1, HM1.out.2.2⟩
  case round =>
    obtain ⟨k, hk, rfl, hH⟩ := hrel
    by_cases hlt : k < m
    · have hltI : (k : Int) < (m : Int) := by omega
      have hkl : k < c.length := by rw [← HN.out]; exact hlt
      obtain ⟨r, o, rfl, hck0⟩ := HC.out.at' (Below.refl _ _) hkl
      have hrb : r ≠ b := HNE.out r o (fun e => by rw [e] at hkl; simp at hkl) ⟨m, k0, rfl⟩
      have hrw : r < w.heap.size := World.block_lt_of_cell? _ _ hck0
      obtain ⟨l, hl2⟩ : ∃ l, l = c.getD k 0 := ⟨_, rfl⟩
      have hck : wr.cell? ⟨r, o + k, none⟩ = some (.int .i64 l) := by
        rw [hl2]
        exact (World.cell?_of_block (a := ⟨r, o + k, none⟩) (hH.out.2.1.block r hrw (fun e => hrb (by injection e)))).trans hck0
      have hcl : c[k]? = some l := by rw [hl2]; exact at_getD hkl
      have hok := okZ_b (HO.out l (List.mem_of_getElem? hcl))
      have hlb1 : -2147483647 ≤ l := hok.2.1
      have hlb2 : l ≤ 2147483647 := hok.2.2
      have hrr : r < wr.heap.size := World.block_lt_of_cell? _ _ hck
      have HCL : Hid (c[k]? = some l) := hcl
      clear hl2 hck0 hcl hok hkl hrb
      by_cases he : l = -p
      · have heb : (l == -p) = true := by simp [he]
        have hec : (l != -p) = false := by simp [he]
        have HJ : Hid (Mk wr b (n + (k + 1)) (joinB S (c.take (k + 1)) p)) := by
          unfold Hid
          rw [joinB_out HCL.out he]; exact hH.out.1.mono (by omega)
        go_wp2_with fail
        refine ⟨⟨k + 1, by omega, by go_num, HJ.out, hH.out.2.1, hH.out.2.2⟩, by simp [intOf]; omega⟩
      · have heb : (l == -p) = false := by simp [he]
        have hec : (l != -p) = true := by simp [he]
        obtain ⟨w2, hput, hM2, hg2, hs2⟩ := hH.out.1.put (by omega) (k := l) (by unfold w64; omega)
        have HJ : Hid (Mk w2 b (n + (k + 1)) (joinB S (c.take (k + 1)) p) ∧ w.grownBy w2 (some b) ∧ w2.heap.size = w.heap.size) := by
          refine ⟨by rw [joinB_in HCL.out he]; exact hM2, ⟨hg2.os.trans hH.out.2.1.os, hg2.tape.trans hH.out.2.1.tape, hg2.output.trans hH.out.2.1.output, Nat.le_trans hH.out.2.1.size hg2.size, fun q hq hn => (hg2.block q (Nat.lt_of_lt_of_le hq hH.out.2.1.size) hn).trans (hH.out.2.1.block q hq hn)⟩, hs2.trans hH.out.2.2⟩
        clear hM2 hg2 hs2
        go_wp2_with fail
        refine ⟨⟨k + 1, by omega, by go_num, HJ.out⟩, by simp [intOf]; omega⟩
    · obtain rfl : k = m := by omega
      have hltI : ¬ (k : Int) < (k : Int) := by omega
      have HE : Hid (Mk wr b (n + k) (joinB S c p)) := by
        have := hH.out.1
        rw [HN.out, List.take_length, ← HN.out] at this
        exact this
      go_wp2_with fail
      go_end0
      exact ⟨rfl, HE.out, hH.out.2.1, hH.out.2.2⟩
end Go.Proofs.Ythdgmkjjpmigeaa
