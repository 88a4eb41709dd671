/- Contracts (traces): literals in a map: pivot, join. -/
import Derived.Test.YthdgmkjjpmigeaaTR9
import Derived.Maps.OwnSet
import Derived.Maps.RangeWalk
namespace Go.Proofs.Ythdgmkjjpmigeaa
open Go.RowKit
set_option linter.unusedSimpArgs false
set_option linter.unusedVariables false

theorem intUnder : Try.prog.underlying 3 = some (.int .i64) := by kernel_rfl
theorem intLaw : Go.Maps.Keyed Try.prog 3 := Go.Maps.int_keyed intUnder
theorem litUnder : Try.prog.underlying 83 = some (.map 3 89) := by kernel_rfl
theorem zeroUnit (w : World) : (zeroValue 89).run Try.prog w = .ok (.agg #[]) w := by kernel_rfl
theorem intKey {k : Int} (h : w64 k) : keyOf Try.prog 3 (.int .i64 k) = some (.int .i64 k) := Go.Maps.keyOf_int_mk intUnder (wf64 h)
/-- A map that has just the numbers of S, at most n. -/
structure Mk (w : World) (b n : Nat) (S : Int → Bool) : Prop where
  ex : ∃ D, w.ownsMap Try.prog 3 (unitElem (H := Unit)) b n D ∧ ∀ k, w64 k → Maps.has D (.int .i64 k) = S k
  wf : ∀ x, S x = true → w64 x
theorem Mk.kept {w w' : World} {b n : Nat} {S : Int → Bool} (h : Mk w b n S) (hb : w'.heap[b]? = w.heap[b]?) : Mk w' b n S := by
  obtain ⟨D, ⟨es, cl, h1, h2⟩, h3⟩ := h.ex
  exact ⟨⟨D, ⟨es, cl, hb.trans h1, h2⟩, h3⟩, h.wf⟩
theorem Mk.lt {w : World} {b n : Nat} {S : Int → Bool} (h : Mk w b n S) : b < w.heap.size := by
  obtain ⟨D, ⟨es, cl, h1, h2⟩, h3⟩ := h.ex
  exact (Array.getElem?_eq_some_iff.1 h1).1
theorem Mk.mono {w : World} {b n m : Nat} {S : Int → Bool} (h : Mk w b n S) (hm : n ≤ m) : Mk w b m S := by
  obtain ⟨D, h1, h3⟩ := h.ex
  exact ⟨⟨D, h1.mono hm, h3⟩, h.wf⟩
theorem Mk.made (w : World) : Mk (w.alloc (.map #[] 0)) w.heap.size 0 (fun _ => false) := ⟨⟨_, World.ownsMap_made w Try.prog _ _, fun k _ => rfl⟩, fun x h => nomatch h⟩
theorem Mk.look {w : World} {b n : Nat} {S : Int → Bool} (h : Mk w b n S) {k : Int} (hk : w64 k) : (Instr.lookup 83 (.map (some b)) (.int .i64 k) true).run Try.prog w = .ok (.tuple #[.agg #[], .bool (S k)]) w := by
  obtain ⟨D, h1, h3⟩ := h.ex
  obtain ⟨v, ps, hr, hv⟩ := h1.look_ok intLaw litUnder (zeroUnit w) unitElem_mk (intKey hk)
  obtain ⟨rfl, -⟩ := unitElem_inv hv
  rw [hr, h3 k hk]
theorem turned_size {w w' : World} {b : Nat} (h : w.mapTurned w' b) : w'.heap.size = w.heap.size := by
  obtain ⟨_, _, _, _, _, rfl⟩ := h
  simp [ChangeMaps.setBlock]
theorem ne_int {k k' : Int} (h : k' ≠ k) : (Lit.int .i64 k') ≠ (Lit.int .i64 k) := fun e => h (by injection e)
theorem Mk.put {w : World} {b n : Nat} {S : Int → Bool} (h : Mk w b n S) (hn : n ≤ 100000000) {k : Int} (hk : w64 k) :
    ∃ w', (Instr.mapUpdate 83 (.map (some b)) (.int .i64 k) (.agg #[])).run Try.prog w = .ok () w' ∧ Mk w' b (n + 1) (fun x => S x || decide (x = k)) ∧ w.grownBy w' (some b) ∧ w'.heap.size = w.heap.size := by
  obtain ⟨D, h1, h3⟩ := h.ex
  obtain ⟨w', hr, h4, h5⟩ := h1.store intLaw litUnder (by unfold maxLen; omega) (intKey hk) unitElem_mk
  refine ⟨w', hr, ⟨⟨_, h4, fun x hx => ?_⟩, fun x hx => ?_⟩, h5.grown, turned_size h5⟩
  · by_cases e : x = k
    · subst e
      rw [Maps.has_put_same (k := .int .i64 x) h1.isMap trivial]; simp
    · rw [Maps.has_put_other (ne_int e), h3 x hx]; simp [e]
  · by_cases e : x = k
    · rw [e]; exact hk
    · exact h.wf x (by simpa [e] using hx)
theorem Mk.del {w : World} {b n : Nat} {S : Int → Bool} (h : Mk w b n S) {k : Int} (hk : w64 k) (ty : TypeId) :
    ∃ w', (Builtin.delete_ #[83, 3] ty #[.map (some b), .int .i64 k]).run Try.prog w = .ok (.tuple #[]) w' ∧ Mk w' b n (fun x => S x && decide (x ≠ k)) ∧ w.grownBy w' (some b) ∧ w'.heap.size = w.heap.size := by
  obtain ⟨D, h1, h3⟩ := h.ex
  obtain ⟨w', hr, h4, h5⟩ := h1.drop intLaw litUnder (intKey hk) ty
  refine ⟨w', hr, ⟨⟨_, h4, fun x hx => ?_⟩, fun x hx => ?_⟩, h5.grown, turned_size h5⟩
  · by_cases e : x = k
    · subst e
      rw [Maps.has_del_same]; simp
    · rw [Maps.has_del_other (ne_int e), h3 x hx]; simp [e]
  · exact h.wf x (by simp at hx; exact hx.1)
/-- What pivot answers, from the pivot so far on. -/
def pivF (S : Int → Bool) : List Int → Int → Int × Bool
  | [], p => (p, decide (p ≠ 0))
  | l :: c, p => if S (-l) = false ∨ p = -l then pivF S c p else if p ≠ 0 then (0, false) else pivF S c (-l)
theorem okZ_b {x : Int} (h : okZ x = true) : x ≠ 0 ∧ -2147483647 ≤ x ∧ x ≤ 2147483647 := by
  unfold okZ at h; simp at h; omega
theorem drop_cons {c : List Int} {k : Nat} {x : Int} (h : c[k]? = some x) : c.drop k = x :: c.drop (k + 1) := by
  obtain ⟨hk, e⟩ := List.getElem?_eq_some_iff.1 h
  rw [← e]; exact List.drop_eq_getElem_cons hk
set_option maxRecDepth 20000 in
set_option maxHeartbeats 6400000 in
theorem pivot_any {w : World} {b n : Nat} {S : Int → Bool} (hM : Mk w b n S) {u : Value} {c : List Int} (hu : Sr w u c) (hl : c.length ≤ 1000000) (hc : ∀ x ∈ c, okZ x = true) :
    Calls Try.prog 54 #[.map (some b), u] w fun ev w' => ev = .returned (.tuple #[.int .i64 (pivF S c 0).1, .bool (pivF S c 0).2]) ∧ Below w.heap.size w w' := by
  obtain ⟨Z, hZ⟩ : ∃ Z, Z = pivF S c 0 := ⟨_, rfl⟩
  rw [← hZ]
  have HZ : Hid _ := hZ
  have HM : Hid (Mk w b n S) := hM
  have HC : Hid _ := hu
  have HO : Hid _ := hc
  obtain ⟨a, k0, rfl⟩ := hu.out
  obtain ⟨m, hm⟩ : ∃ m, m = c.length := ⟨_, rfl⟩
  rw [← hm] at HC hl ⊢
  have HN : Hid _ := hm
  clear hM hu hc hm hZ
  go_enter Try.func54, Try.ntmps54
  go_wp2_with fail
  go_loopw [6, 13] (fun q i wr => ∃ (k : Nat) (p : Int), k ≤ m ∧ i = .int .i64 (k : Int) ∧ q = .int .i64 p ∧ Hid (Z = pivF S (c.drop k) p ∧ Below w.heap.size w wr)) (fun q i wr => m - (intOf i).toNat)
  case atStart => exact ⟨0, 0, Nat.zero_le _, rfl, rfl, HZ.out, Below.refl _ _⟩
  case round =>
    obtain ⟨k, p, hk, rfl, rfl, hH⟩ := hrel
    by_cases hlt : k < m
    · have hltI : (k : Int) < (m : Int) := by omega
      have hkl : k < c.length := by rw [← HN.out]; exact hlt
      obtain ⟨r, o, rfl, hck⟩ := HC.out.at' hH.out.2 hkl
      obtain ⟨l, hl2⟩ : ∃ l, l = c.getD k 0 := ⟨_, rfl⟩
      rw [← hl2] at hck
      have hcl : c[k]? = some l := by rw [hl2]; exact at_getD hkl
      have hok := okZ_b (HO.out l (List.mem_of_getElem? hcl))
      have hlb1 : -2147483647 ≤ l := hok.2.1
      have hlb2 : l ≤ 2147483647 := hok.2.2
      have hlk := (HM.out.kept (hH.out.2.block _ HM.out.lt)).look (k := -l) (by unfold w64; omega)
      obtain ⟨f, hf⟩ : ∃ f, f = S (-l) := ⟨_, rfl⟩
      rw [← hf] at hlk
      have HF : Hid (f = S (-l)) := hf
      have HST : Hid (Z = pivF S (l :: c.drop (k + 1)) p) := by
        unfold Hid; rw [hH.out.1, drop_cons hcl]
      have HBG : Hid (∀ o : Obj, Below w.heap.size w (wr.alloc o)) := fun o => hH.out.2.alloc hH.out.2.size o
      clear hl2 hcl hok hf hkl
      cases f with
      | false =>
        have HNX : Hid (Z = pivF S (c.drop (k + 1)) p) := by
          unfold Hid; rw [HST.out, pivF, if_pos (Or.inl HF.out.symm)]
        go_wp2_with fail
        refine ⟨⟨k + 1, p, by omega, by go_num, rfl, HNX.out, HBG.out _⟩, by simp [intOf]; omega⟩
      | true =>
        by_cases hp : p = -l
        · have HNX : Hid (Z = pivF S (c.drop (k + 1)) p) := by
            unfold Hid; rw [HST.out, pivF, if_pos (Or.inr hp)]
          have hpb : (p == -l) = true := by simp [hp]
          go_wp2_with fail
          refine ⟨⟨k + 1, p, by omega, by go_num, by first | rfl | simp [hp], HNX.out, HBG.out _⟩, by simp [intOf]; omega⟩
        · have hpb : (p == -l) = false := by simp [hp]
          by_cases hp0 : p = 0
          · have HNX : Hid (Z = pivF S (c.drop (k + 1)) (-l)) := by
              unfold Hid; rw [HST.out, pivF, if_neg (by rw [← HF.out]; simp [hp]), if_neg (by simp [hp0])]
            subst hp0
            go_wp2_with fail
            refine ⟨⟨k + 1, -l, by omega, by go_num, rfl, HNX.out, HBG.out _⟩, by simp [intOf]; omega⟩
          · have HNX : Hid (Z = (0, false)) := by
              unfold Hid; rw [HST.out, pivF, if_neg (by rw [← HF.out]; simp [hp]), if_pos hp0]
            have hp0b : (p != 0) = true := by simp [hp0]
            have hp0c : (p == 0) = false := by simp [hp0]
            go_wp2_with fail
            go_ret2
            exact ⟨by rw [HNX.out]; rfl, HBG.out _⟩
    · obtain rfl : k = m := by omega
      have hltI : ¬ (k : Int) < (k : Int) := by omega
      have HE : Hid (Z = (p, decide (p ≠ 0))) := by
        unfold Hid
        rw [hH.out.1, HN.out, List.drop_length]; rfl
      go_wp2_with fail
      go_ret2
      refine ⟨?_, hH.out.2⟩
      rw [HE.out]
      first | rfl | (simp [bne]; rfl)
end Go.Proofs.Ythdgmkjjpmigeaa
