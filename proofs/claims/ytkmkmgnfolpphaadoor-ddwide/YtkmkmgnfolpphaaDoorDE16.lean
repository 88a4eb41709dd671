/- Contracts (dd): what is pinned. -/
import Derived.Test.YtkmkmgnfolpphaaDoorDE15
import Derived.Sort.KeysCollected
namespace Go.Proofs.YtkmkmgnfolpphaaDoor
open Go.RowKit
set_option linter.unusedSimpArgs false
set_option linter.unusedVariables false

theorem intLaw : Go.Maps.Keyed Tryd.prog 3 := Go.Maps.int_keyed underInt
theorem pinUnder : Tryd.prog.underlying 76 = some (.map 3 3) := by kernel_rfl
theorem intKey {k : Int} (h : w64 k) : keyOf Tryd.prog 3 (.int .i64 k) = some (.int .i64 k) := Go.Maps.keyOf_int_mk underInt (wf64 h)
theorem ne_int {k k' : Int} (h : k' ≠ k) : (Lit.int .i64 k') ≠ (Lit.int .i64 k) := fun e => h (by injection e)
theorem turned_size {w w' : World} {b : Nat} (h : w.mapTurned w' b) : w'.heap.size = w.heap.size := by
  obtain ⟨_, _, _, _, _, rfl⟩ := h
  simp [ChangeMaps.setBlock]
theorem at_no {D : DataW Unit} {k : Lit} (h : Maps.has D k = false) (z : DataW Unit) : D.atKey k z = z := by
  cases D <;> try rfl
  rename_i es
  rw [Maps.has_eq] at h
  have : es.find? (fun p => p.1.sameKey k) = none := List.find?_eq_none.2 fun p hp => by
    have := List.any_eq_false.1 h p hp
    simpa using this
  simp [DataW.atKey, this]
set_option maxRecDepth 20000 in
theorem Pm.look {w : World} {p : Nat} {pn : Int → Int} (h : Pm w p pn) {k : Int} (hk : w64 k) : (Instr.lookup 76 (.map (some p)) (.int .i64 k) false).run Tryd.prog w = .ok (.int .i64 (pn k)) w := by
  obtain ⟨n, D, hD, hK⟩ := h.ex
  obtain ⟨c, hr, ha, -⟩ := hD.lookup_int intLaw pinUnder underInt (zeroInt _) (intKey hk)
  obtain ⟨k1, k2⟩ := hK k hk.1 hk.2
  by_cases hp : 1 ≤ pn k
  · rw [k2 hp] at ha
    simp only [DataW.lit.injEq, Lit.int.injEq, true_and] at ha
    rw [hr, ha]
  · have h0 : pn k = 0 := (h.rg k).resolve_right (fun q => hp q.1)
    rw [decide_eq_false hp] at k1
    rw [at_no k1] at ha
    simp only [DataW.lit.injEq, Lit.int.injEq, true_and] at ha
    rw [hr, ← ha, h0]
/-- Few are pinned. -/
theorem Pm.few {w : World} {p : Nat} {pn : Int → Int} (h : Pm w p pn) : ∃ n D, n ≤ 20000 ∧ w.ownsMap (H := Unit) Tryd.prog 3 (plainElem Tryd.prog 3) p n D ∧ ∀ k : Int, -9223372036854775808 ≤ k → k ≤ 9223372036854775807 → Maps.has D (.int .i64 k) = decide (1 ≤ pn k) ∧ (1 ≤ pn k → ∀ z, D.atKey (.int .i64 k) z = .lit (.int .i64 (pn k))) := by
  obtain ⟨n, D, hD, hK⟩ := h.ex
  obtain ⟨es, hDe, hpw, -⟩ := hD.entries intLaw
  obtain ⟨es', hDe', hko⟩ := hD.keysOf
  obtain rfl : es = es' := by rw [hDe] at hDe'; simpa using hDe'
  have hint : ∀ q ∈ es, ∃ x : Int, q.1 = .int .i64 x ∧ 2 ≤ x ∧ x < 20000 := fun q hq => by
    obtain ⟨v, hv⟩ := hko q hq
    obtain ⟨x, e1, e2, hwf⟩ : ∃ x : Int, v = .int .i64 x ∧ q.1 = .int .i64 x ∧ (Lit.int .i64 x).wf = true := by
      cases v <;> simp [keyOf, underInt, mapKey] at hv
      rename_i q' a
      obtain ⟨⟨rfl, hw⟩, e⟩ := hv
      exact ⟨a, rfl, e.symm, hw⟩
    have hb : -9223372036854775808 ≤ x ∧ x ≤ 9223372036854775807 := by
      simp only [Lit.wf, IntKind.min, IntKind.max, IntKind.signed, IntKind.bits, Bool.and_eq_true, decide_eq_true_eq, if_true] at hwf
      omega
    have hh : Maps.has D (.int .i64 x) = true := by
      rw [hDe, Maps.has_eq, List.any_eq_true]
      exact ⟨q, hq, by rw [e2]; simp [Lit.sameKey]⟩
    rw [(hK x hb.1 hb.2).1] at hh
    have := of_decide_eq_true hh
    rcases h.rg x with q0 | q1
    · omega
    · exact ⟨x, e2, q1.2⟩
  have hlen : es.length ≤ 20000 := by
    have hsub : ∀ q ∈ es.map (fun q => q.1), q ∈ (List.range 20000).map (fun i : Nat => Lit.int .i64 (i : Int)) := fun q hq => by
      obtain ⟨r, hr, rfl⟩ := List.mem_map.1 hq
      obtain ⟨x, e, h1, h2⟩ := hint r hr
      rw [e]
      exact List.mem_map.2 ⟨x.toNat, List.mem_range.2 (by omega), by rw [show ((x.toNat : Nat) : Int) = x by omega]⟩
    have hnd : (es.map (fun q => q.1)).Nodup := List.pairwise_map.2 hpw
    have := List.Nodup.length_le_of_subset hnd hsub
    simpa using this
  refine ⟨es.length, D, hlen, ?_, hK⟩
  obtain ⟨es0, cl, h1, h2, h3, h4⟩ := hD
  refine ⟨es0, cl, h1, h2, ?_, h4⟩
  have e : es.length = es0.size := by
    rw [hDe] at h4
    injection h4 with h4
    rw [h4, Go.length_sorted]; simp
  omega
def pinA (pn : Int → Int) (f c : Int) : Int → Int := fun k => if k = f then c else pn k
theorem Pm.put {w : World} {p : Nat} {pn : Int → Int} (h : Pm w p pn) {f c : Int} (hf : 2 ≤ f ∧ f < 20000) (hc : 1 ≤ c ∧ c ≤ 1000000000) :
    ∃ w', (Instr.mapUpdate 76 (.map (some p)) (.int .i64 f) (.int .i64 c)).run Tryd.prog w = .ok () w' ∧ Pm w' p (pinA pn f c) ∧ w.grownBy w' (some p) ∧ w'.heap.size = w.heap.size := by
  obtain ⟨n, D, hn, hD, hK⟩ := h.few
  have hwf : w64 f := by unfold w64; omega
  obtain ⟨w', hr, h4, h5⟩ := hD.store intLaw pinUnder (by unfold maxLen; omega) (intKey hwf) (plainElem_int underInt (wf64 (x := c) (by unfold w64; omega)))
  refine ⟨w', hr, ⟨⟨_, _, h4, fun k k1 k2 => ?_⟩, fun k => ?_⟩, h5.grown, turned_size h5⟩
  · unfold pinA
    by_cases e : k = f
    · subst e
      rw [if_pos rfl, Maps.has_put_same (k := .int .i64 k) hD.isMap trivial]
      exact ⟨by rw [decide_eq_true hc.1], fun _ z => Maps.atKey_put_same (k := .int .i64 k) hD.isMap trivial _ z⟩
    · rw [if_neg e, Maps.has_put_other (ne_int e)]
      refine ⟨(hK k k1 k2).1, fun hp z => ?_⟩
      rw [Maps.atKey_put_other (ne_int e)]
      exact (hK k k1 k2).2 hp z
  · unfold pinA
    split
    · next e => exact Or.inr ⟨hc.1, by omega, by omega⟩
    · exact h.rg k
theorem Pm.del {w : World} {p : Nat} {pn : Int → Int} (h : Pm w p pn) {f : Int} (hwf : w64 f) (ty : TypeId) :
    ∃ w', (Builtin.delete_ #[76, 3] ty #[.map (some p), .int .i64 f]).run Tryd.prog w = .ok (.tuple #[]) w' ∧ Pm w' p (pinA pn f 0) ∧ w.grownBy w' (some p) ∧ w'.heap.size = w.heap.size := by
  obtain ⟨n, D, hD, hK⟩ := h.ex
  obtain ⟨w', hr, h4, h5⟩ := hD.drop intLaw pinUnder (intKey hwf) ty
  refine ⟨w', hr, ⟨⟨_, _, h4, fun k k1 k2 => ?_⟩, fun k => ?_⟩, h5.grown, turned_size h5⟩
  · unfold pinA
    by_cases e : k = f
    · subst e
      rw [if_pos rfl, Maps.has_del_same]
      exact ⟨rfl, fun h => by omega⟩
    · rw [if_neg e, Maps.has_del_other (ne_int e)]
      refine ⟨(hK k k1 k2).1, fun hp z => ?_⟩
      rw [Maps.atKey_del_other (ne_int e)]
      exact (hK k k1 k2).2 hp z
  · unfold pinA
    split
    · exact Or.inl rfl
    · exact h.rg k
/-- Only the pins' map has turned. -/
theorem Gr.pinned {w w' : World} {F : Nat → Prop} {g vars most m p : Nat} {v u : Value} {S : St} {pn pn' : Int → Int} (hx : Mx w g m p v u vars most S pn) (hmp : m ≠ p) (hF : F g ∧ F m ∧ F p ∧ (∀ b, v.ownBlock = some b → F b) ∧ ∀ b, u.ownBlock = some b → F b) (hP : Pm w' p pn') (hg : w.grownBy w' (some p)) : Gr w' F g vars most S pn' ∧ Ch w w' F F := by
  obtain ⟨s1, s2, s3, s3', s4, s5, s6, s7, s8⟩ := hx.sep
  have kp : ∀ k, k < w.heap.size → k ≠ p → w'.heap[k]? = w.heap[k]? := fun k h1 h2 => hg.block k h1 (fun e => h2 (by cases e; rfl))
  refine ⟨⟨m, p, v, u, ⟨(kp g hx.lt s3').trans hx.hd, row_own hx.row fun b e => kp b (hx.row.lt b e).2 (fun q => s6 (by rw [← q]; exact e)), hx.nums.kept (kp m hx.nums.lt hmp), row_own hx.spr fun b e => kp b (World.ownsRow.lt hx.spr b e).2 (fun q => s7 (by rw [← q]; exact e)), hP, hx.mg⟩, hmp, hF.1, hF.2.1, hF.2.2.1, hF.2.2.2.1, hF.2.2.2.2⟩, ⟨hg.os, hg.tape, hg.output, hg.size, fun k h1 h2 => kp k h1 (fun e => h2 (by rw [e]; exact hF.2.2.1)), fun _ q => Or.inl q⟩⟩
set_option maxRecDepth 20000 in
set_option maxHeartbeats 3200000 in
theorem pin_any {w : World} {F : Nat → Prop} {g vars most : Nat} {S : St} {pn : Int → Int} (h : Gr w F g vars most S pn) (f : Int) (hc : pn f ≤ 1000000) :
    Calls Tryd.prog 37 #[.pointer (some ⟨g, 0, none⟩), .int .i64 f] w fun e w' => e = .returned (.int .i64 (if alive S.ns f then 0 else 140)) ∧ ∃ F', Gr w' F' g vars most S (if alive S.ns f ∧ 2 ≤ f then pinA pn f (pn f + 1) else pn) ∧ Ch w w' F F' := by
  have HH : Hid _ := has_any h f
  have HI : Hid _ := isNode_any f
  by_cases ha : alive S.ns f
  · rw [if_pos ha]
    have HH2 : Hid (Calls Tryd.prog 38 #[.pointer (some ⟨g, 1, none⟩), .int .i64 f] w fun e w' => e = .returned (.bool true) ∧ w' = w) := by
      have := HH.out
      rwa [decide_eq_true ha] at this
    by_cases h2 : 2 ≤ f
    · rw [if_pos ⟨ha, h2⟩]
      have HI2 : Hid (∀ wx, Calls Tryd.prog 39 #[.int .i64 f] wx fun e w' => e = .returned (.bool true) ∧ w' = wx) := fun wx => by
        have := HI.out wx
        rwa [decide_eq_true (by omega)] at this
      obtain ⟨m, p, v, u, hx, hmp, hF⟩ := h
      have c5 := hx.c5
      have hl := hx.mg.len
      have hmo := hx.mg.mo
      have hal := ha.2.1
      have hrg : 0 ≤ pn f := by rcases hx.pins.rg f with q | q <;> omega
      have hlk := hx.pins.look (k := f) (by unfold w64; omega)
      obtain ⟨X, hmu, hP, hgr, -⟩ := hx.pins.put (f := f) (c := pn f + 1) (by omega) (by omega)
      have HEND : Hid _ := Gr.pinned hx hmp hF hP hgr
      obtain ⟨c, hcc⟩ : ∃ c, c = pn f := ⟨_, rfl⟩
      rw [← hcc] at hlk hmu HEND hc hrg ⊢
      clear hx hP hgr hal ha HI HH hF hmp hcc
      go_enter Tryd.func37, Tryd.ntmps37
      go_wp2_with fail
      refine HH2.out.mono ?_
      rintro e w0 ⟨rfl, hw0⟩
      rw [hw0]
      clear hw0 w0
      go_wp2_with fail
      refine (HI2.out _).mono ?_
      rintro e w0 ⟨rfl, hw0⟩
      rw [hw0]
      clear hw0 w0
      go_wp2_with fail
      go_ret
      exact ⟨rfl, F, HEND.out.1, HEND.out.2⟩
    · rw [if_neg (fun q => h2 q.2)]
      have HI2 : Hid (∀ wx, Calls Tryd.prog 39 #[.int .i64 f] wx fun e w' => e = .returned (.bool false) ∧ w' = wx) := fun wx => by
        have := HI.out wx
        rwa [decide_eq_false (by omega)] at this
      have HEND : Hid (Gr w F g vars most S pn) := h
      clear h ha HI HH
      go_enter Tryd.func37, Tryd.ntmps37
      go_wp2_with fail
      refine HH2.out.mono ?_
      rintro e w0 ⟨rfl, hw0⟩
      rw [hw0]
      clear hw0 w0
      go_wp2_with fail
      refine (HI2.out _).mono ?_
      rintro e w0 ⟨rfl, hw0⟩
      rw [hw0]
      clear hw0 w0
      go_wp2_with fail
      go_ret
      exact ⟨rfl, F, HEND.out, Ch.refl _ _⟩
  · rw [if_neg ha, if_neg (fun q => ha q.1)]
    have HH2 : Hid (Calls Tryd.prog 38 #[.pointer (some ⟨g, 1, none⟩), .int .i64 f] w fun e w' => e = .returned (.bool false) ∧ w' = w) := by
      have := HH.out
      rwa [decide_eq_false ha] at this
    have HEND : Hid (Gr w F g vars most S pn) := h
    clear h ha HI HH
    go_enter Tryd.func37, Tryd.ntmps37
    go_wp2_with fail
    refine HH2.out.mono ?_
    rintro e w0 ⟨rfl, hw0⟩
    rw [hw0]
    clear hw0 w0
    go_wp2_with fail
    go_ret
    exact ⟨rfl, F, HEND.out, Ch.refl _ _⟩
/-- What Unpin tells. -/
def unpE (pn : Int → Int) (f : Int) : Int := if 1 ≤ pn f ∨ f = 0 ∨ f = 1 then 0 else 140
set_option maxRecDepth 20000 in
set_option maxHeartbeats 3200000 in
theorem unpin_any {w : World} {F : Nat → Prop} {g vars most : Nat} {S : St} {pn : Int → Int} (h : Gr w F g vars most S pn) (f : Int) (hwf : w64 f) (hc : pn f ≤ 1000000) :
    Calls Tryd.prog 36 #[.pointer (some ⟨g, 0, none⟩), .int .i64 f] w fun e w' => e = .returned (.int .i64 (unpE pn f)) ∧ ∃ F', Gr w' F' g vars most S (if 1 ≤ pn f then pinA pn f (pn f - 1) else pn) ∧ Ch w w' F F' := by
  obtain ⟨m, p, v, u, hx, hmp, hF⟩ := h
  have c5 := hx.c5
  have hlk := hx.pins.look hwf
  have hrg := hx.pins.rg f
  by_cases h1 : 1 ≤ pn f
  · have e : unpE pn f = 0 := by unfold unpE; rw [if_pos (Or.inl h1)]
    rw [e, if_pos h1]
    by_cases h2 : 1 < pn f
    · obtain ⟨X, hmu, hP, hgr, -⟩ := hx.pins.put (f := f) (c := pn f - 1) (by omega) (by omega)
      have HEND : Hid _ := Gr.pinned hx hmp hF hP hgr
      obtain ⟨c, hcc⟩ : ∃ c, c = pn f := ⟨_, rfl⟩
      rw [← hcc] at hlk hmu HEND hc hrg h1 h2 ⊢
      clear hx hP hgr hF hmp hcc e hrg
      go_enter Tryd.func36, Tryd.ntmps36
      go_wp2_with fail
      go_ret
      exact ⟨rfl, F, HEND.out.1, HEND.out.2⟩
    · have e1 : pn f = 1 := by omega
      have hdel : ∀ ty, ∃ X, (Builtin.delete_ #[76, 3] ty #[.map (some p), .int .i64 f]).run Tryd.prog w = .ok (.tuple #[]) X ∧ Gr X F g vars most S (pinA pn f 0) ∧ Ch w X F F := fun ty => by
        obtain ⟨X, hd, hP, hgr, -⟩ := hx.pins.del hwf ty
        have := Gr.pinned hx hmp hF hP hgr
        exact ⟨X, hd, this.1, this.2⟩
      obtain ⟨X, hd, hG, hC⟩ := hdel 0
      have HEND : Hid (Gr X F g vars most S (pinA pn f 0) ∧ Ch w X F F) := ⟨hG, hC⟩
      rw [e1] at hlk ⊢
      clear hx hF hmp e hrg hc h1 h2 hG hC hdel
      go_enter Tryd.func36, Tryd.ntmps36
      go_wp2_with fail
      go_ret
      exact ⟨rfl, F, HEND.out.1, HEND.out.2⟩
  · have h0 : pn f = 0 := by omega
    rw [if_neg h1]
    rw [h0] at hlk
    have HEND : Hid (Gr w F g vars most S pn) := ⟨m, p, v, u, hx, hmp, hF⟩
    by_cases hf0 : f = 0
    · have e : unpE pn f = 0 := by unfold unpE; rw [if_pos (Or.inr (Or.inl hf0))]
      rw [e]
      have hb : (f == 0) = true := by simp [hf0]
      have hb2 : (f != 0) = false := by simp [hf0]
      subst hf0
      clear hx hF hmp e hrg hc h1 h0
      go_enter Tryd.func36, Tryd.ntmps36
      go_wp2_with fail
      go_ret
      exact ⟨rfl, F, HEND.out, Ch.refl _ _⟩
    · have hb : (f == 0) = false := by simp [hf0]
      by_cases hf1 : f = 1
      · have e : unpE pn f = 0 := by unfold unpE; rw [if_pos (Or.inr (Or.inr hf1))]
        rw [e]
        subst hf1
        clear hx hF hmp e hrg hc h1 h0 hf0
        go_enter Tryd.func36, Tryd.ntmps36
        go_wp2_with fail
        go_ret
        exact ⟨rfl, F, HEND.out, Ch.refl _ _⟩
      · have hb1 : (f == 1) = false := by simp [hf1]
        have hb2 : (f != 0) = true := by simp [hf0]
        have hb3 : (f != 1) = true := by simp [hf1]
        have e : unpE pn f = 140 := by unfold unpE; rw [if_neg (by simp [h1, hf0, hf1])]
        rw [e]
        clear hx hF hmp e hrg hc h1 h0 hf0 hf1
        go_enter Tryd.func36, Tryd.ntmps36
        go_wp2_with fail
        go_ret
        exact ⟨rfl, F, HEND.out, Ch.refl _ _⟩
end Go.Proofs.YtkmkmgnfolpphaaDoor
