import Derived.Test.YtcahhahbcijkiaaGreatBLZD
namespace Go.Proofs.YtcahhahbcijkiaaGreat.Ag
set_option maxHeartbeats 12800000
set_option maxRecDepth 100000
open Go.RowKit
set_option linter.unusedSimpArgs false
set_option linter.unusedVariables false
theorem intUnderK : Tryz.prog.underlying 3 = some (.int .i64) := by kernel_rfl
theorem intLawK : Go.Maps.Keyed Tryz.prog 3 := Go.Maps.int_keyed intUnderK
theorem kwUnder : Tryz.prog.underlying 76 = some (.map 3 81) := by kernel_rfl
theorem intKeyK {k : Int} (h : w64 k) : keyOf Tryz.prog 3 (.int .i64 k) = some (.int .i64 k) := Go.Maps.keyOf_int_mk intUnderK (wf64 h)
theorem zeroWord (w : World) : (zeroValue 81).run Tryz.prog w = .ok (.slice none 0 0) w := by kernel_rfl
theorem Mp.lookK {w : World} {k e t : TypeId} {b : Nat} {L : List (Value × Value)} (h : Mp w k b L) (K : Go.Maps.Keyed Tryz.prog k) (ht : Tryz.prog.underlying t = some (.map k e)) {z : Value} (hz : (zeroValue e).run Tryz.prog w = .ok z w)
  {key : Value} {kl : Lit} (hkey : keyOf Tryz.prog k key = some kl) :
  ((Instr.lookup t (.map (some b)) key true).run Tryz.prog w = .ok (.tuple #[z, .bool false]) w ∧ ∀ p ∈ L, p.1 ≠ key) ∨
  ∃ p, p ∈ L ∧ p.1 = key ∧ (Instr.lookup t (.map (some b)) key true).run Tryz.prog w = .ok (.tuple #[p.2, .bool true]) w := by
 obtain ⟨es, cl, hb, rfl, hk⟩ := h
 have hes : ∀ x ∈ es.toList, ∃ l, keyOf Tryz.prog k x.key = some l := fun x hx => hk (x.key, x.val) (List.mem_map.2 ⟨x, hx, rfl⟩)
 rcases K.find w hkey es.toList hes with ⟨h1, h2⟩ | ⟨j, e0, h1, h2, h3⟩
 ·refine Or.inl ⟨by simp [Instr.lookup, run_underlying ht, MapKept.run_getObj_map hb, K.check w _ hkey, h1, hz, Result.andThen], fun p hp => ?_⟩
  obtain ⟨x, hx, rfl⟩ := List.mem_map.1 hp
  exact h2 x hx
 ·exact Or.inr ⟨(e0.key, e0.val), List.mem_map.2 ⟨e0, List.mem_of_getElem? h2, rfl⟩, h3, by simp [Instr.lookup, run_underlying ht, MapKept.run_getObj_map hb, K.check w _ hkey, h1, Result.andThen]⟩
theorem Mp.storeK {w : World} {k e t : TypeId} {b : Nat} {L : List (Value × Value)} (h : Mp w k b L) (K : Go.Maps.Keyed Tryz.prog k) (ht : Tryz.prog.underlying t = some (.map k e))
  {key val : Value} {kl : Lit} (hkey : keyOf Tryz.prog k key = some kl) (hno : ∀ p ∈ L, p.1 ≠ key) :
  ∃ w', (Instr.mapUpdate t (.map (some b)) key val).run Tryz.prog w = .ok () w' ∧ Mp w' k b (L ++ [(key, val)]) ∧ w.grownBy w' (some b) ∧ w'.heap.size = w.heap.size := by
 obtain ⟨es, cl, hb, rfl, hk⟩ := h
 have hes : ∀ x ∈ es.toList, ∃ l, keyOf Tryz.prog k x.key = some l := fun x hx => hk (x.key, x.val) (List.mem_map.2 ⟨x, hx, rfl⟩)
 have hlt : b < w.heap.size := (Array.getElem?_eq_some_iff.1 hb).1
 rcases K.find w hkey es.toList hes with ⟨h1, h2⟩ | ⟨j, e0, h1, h2, h3⟩
 ·refine ⟨ChangeMaps.setBlock w b (.map (es.push ⟨key, val, cl⟩) (cl + 1)), by simp [Instr.mapUpdate, run_underlying ht, MapKept.run_getObj_map hb, K.check w false hkey, h1, MapKept.run_setObj_map _ hb, Result.andThen, ChangeMaps.setBlock], ⟨es.push ⟨key, val, cl⟩, cl + 1, by simp [ChangeMaps.setBlock, hlt], by simp, ?_⟩, ⟨rfl, rfl, rfl, by simp [ChangeMaps.setBlock], fun i _ hi => ?_⟩, by simp [ChangeMaps.setBlock]⟩
  ·intro p hp
   rcases List.mem_append.1 hp with hp | hp
   ·exact hk p hp
   ·obtain rfl := List.mem_singleton.1 hp
    exact ⟨_, hkey⟩
  ·have : b ≠ i := fun e => hi (by rw [e])
   simp [ChangeMaps.setBlock, this]
 ·exact absurd h3 (hno (e0.key, e0.val) (List.mem_map.2 ⟨e0, List.mem_of_getElem? h2, rfl⟩))
structure Kw (w : World) (D : Nat → Prop) (mk : Nat) (f : Int → Option (List Int)) : Prop where
 ex : ∃ E, Mp w 3 mk E ∧ (∀ p ∈ E, ∃ k L, p.1 = .int .i64 k ∧ f k = some L ∧ Wd w D p.2 L) ∧ ∀ k L, f k = some L → ∃ u, (Value.int .i64 k, u) ∈ E
section
variable {w w' : World} {D D' : Nat → Prop} {mk : Nat} {f : Int → Option (List Int)} {u : Value} {L : List Int}
theorem Kw.lt (h : Kw w D mk f) : mk < w.heap.size := by
 obtain ⟨E, h1, -⟩ := h.ex
 exact h1.lt
theorem Kw.made (w : World) (D : Nat → Prop) : Kw (w.alloc (.map #[] 0)) D w.heap.size (fun _ => none) := ⟨[], Mp.made w _, (fun p hp => nomatch hp), (fun k L e => nomatch e)⟩
theorem Kw.kept (h : Kw w D mk f) (hm : w'.heap[mk]? = w.heap[mk]?) (hw : ∀ u L, Wd w D u L → Wd w' D' u L) : Kw w' D' mk f := by
 obtain ⟨E, h1, h2, h3⟩ := h.ex
 refine ⟨E, h1.kept hm, fun p hp => ?_, h3⟩
 obtain ⟨k, L, e1, e2, e3⟩ := h2 p hp
 exact ⟨k, L, e1, e2, hw _ _ e3⟩
theorem Wd.grown {b : Nat} (h : Wd w D u L) (hg : w.grownBy w' (some b)) (hb : ∀ o, w.cell? ⟨b, o, none⟩ = none) : Wd w' D u L := by
 obtain ⟨a, c, e, h1, h2, h3, h4⟩ := h.ex
 refine ⟨a, c, e, h1, h2, h3, ?_⟩
 by_cases hL : L = []
 ·exact Or.inl hL
 ·obtain ⟨r, o, q1, q2, q3, q4⟩ := h4.resolve_left hL
  have hr : b ≠ r := fun e => by
   have := q4 0 (List.length_pos_iff.2 hL)
   rw [← e, hb] at this
   cases this
  exact Or.inr ⟨r, o, q1, Nat.lt_of_lt_of_le q2 hg.size, q3, Li_kept q4 (hg.block r q2 (fun e => hr (Option.some.inj e).symm))⟩
theorem Kw.nocell (h : Kw w D mk f) : ∀ o, w.cell? ⟨mk, o, none⟩ = none := fun o => by
 obtain ⟨E, ⟨es, cl, h1, -⟩, -⟩ := h.ex
 simp [World.cell?, h1]
theorem Kw.look2 (h : Kw w D mk f) {k : Int} (hk : w64 k) : ∃ u, (Instr.lookup 76 (.map (some mk)) (.int .i64 k) true).run Tryz.prog w = .ok (.tuple #[u, .bool (f k).isSome]) w ∧ Wd w D u ((f k).getD []) := by
 obtain ⟨E, h1, h2, h3⟩ := h.ex
 rcases h1.lookK intLawK kwUnder (zeroWord w) (intKeyK hk) with ⟨c1, c2⟩ | ⟨p, c1, c2, c3⟩
 ·have hf : f k = none := by
   cases e : f k with
   | none => rfl
   | some L =>
    obtain ⟨u, hu⟩ := h3 k L e
    exact absurd rfl (c2 _ hu)
  rw [hf]
  exact ⟨_, c1, Wd.nil _ _⟩
 ·obtain ⟨k', L, e1, e2, e3⟩ := h2 p c1
  have hkk : k' = k := by rw [c2] at e1; simpa using e1.symm
  subst hkk
  rw [e2]
  exact ⟨_, c3, e3⟩
theorem Kw.look (h : Kw w D mk f) {k : Int} (hk : w64 k) : ∃ u, (Instr.lookup 76 (.map (some mk)) (.int .i64 k) false).run Tryz.prog w = .ok u w ∧ Wd w D u ((f k).getD []) := by
 obtain ⟨E, ⟨es, cl, hb, rfl, hke⟩, h2, h3⟩ := h.ex
 have hes : ∀ x ∈ es.toList, ∃ l, keyOf Tryz.prog 3 x.key = some l := fun x hx => hke (x.key, x.val) (List.mem_map.2 ⟨x, hx, rfl⟩)
 rcases intLawK.find w (intKeyK hk) es.toList hes with ⟨c1, c2⟩ | ⟨j, e0, c1, c2, c3⟩
 ·have hf : f k = none := by
   cases e : f k with
   | none => rfl
   | some L =>
    obtain ⟨u, hu⟩ := h3 k L e
    obtain ⟨x, hx, hxe⟩ := List.mem_map.1 hu
    have : x.key = .int .i64 k := by injection hxe
    exact absurd this (c2 x hx)
  rw [hf]
  exact ⟨.slice none 0 0, by simp [Instr.lookup, run_underlying kwUnder, MapKept.run_getObj_map hb, intLawK.check w _ (intKeyK hk), c1, zeroWord, Result.andThen], Wd.nil _ _⟩
 ·obtain ⟨k', L, e1, e2, e3⟩ := h2 (e0.key, e0.val) (List.mem_map.2 ⟨e0, List.mem_of_getElem? c2, rfl⟩)
  have hkk : k' = k := by
   have e1' : e0.key = .int .i64 k' := e1
   rw [c3] at e1'
   simpa using e1'.symm
  subst hkk
  rw [e2]
  exact ⟨e0.val, by simp [Instr.lookup, run_underlying kwUnder, MapKept.run_getObj_map hb, intLawK.check w _ (intKeyK hk), c1, Result.andThen], e3⟩
def upK (f : Int → Option (List Int)) (k : Int) (L : List Int) : Int → Option (List Int) := fun x => if x = k then some L else f x
theorem Kw.put (h : Kw w D mk f) {k : Int} (hk : w64 k) (hf : f k = none) (hu : Wd w D u L) :
  ∃ w', (Instr.mapUpdate 76 (.map (some mk)) (.int .i64 k) u).run Tryz.prog w = .ok () w' ∧ Kw w' D mk (upK f k L) ∧ w.grownBy w' (some mk) ∧ w'.heap.size = w.heap.size := by
 obtain ⟨E, h1, h2, h3⟩ := h.ex
 have hno : ∀ p ∈ E, p.1 ≠ .int .i64 k := fun p hp e => by
  obtain ⟨k', L', e1, e2, -⟩ := h2 p hp
  rw [e] at e1
  have : k = k' := by simpa using e1
  rw [← this, hf] at e2
  cases e2
 obtain ⟨w', r0, r1, r2, r3⟩ := h1.storeK (val := u) intLawK kwUnder (intKeyK hk) hno
 have hnc := h.nocell
 refine ⟨w', r0, ⟨_, r1, fun p hp => ?_, fun k' L' e => ?_⟩, r2, r3⟩
 ·rcases List.mem_append.1 hp with hp | hp
  ·obtain ⟨k', L', e1, e2, e3⟩ := h2 p hp
   have hne : ¬ k' = k := fun e => by rw [e, hf] at e2; cases e2
   exact ⟨k', L', e1, by unfold upK; rw [if_neg hne]; exact e2, e3.grown r2 hnc⟩
  ·rw [List.mem_singleton.1 hp]
   exact ⟨k, L, rfl, by unfold upK; rw [if_pos rfl], hu.grown r2 hnc⟩
 ·unfold upK at e
  by_cases hkk : k' = k
  ·subst hkk
   exact ⟨u, List.mem_append_right _ (List.mem_singleton.2 rfl)⟩
  ·rw [if_neg hkk] at e
   obtain ⟨u', hu'⟩ := h3 k' L' e
   exact ⟨u', List.mem_append_left _ hu'⟩
end
open Go.RowKit
def ipK (mo : Nat) (ks : List Kd) : Nat → List Int × Int × List Kd
 | 0 => ([], 0, ks)
 | n + 1 => if (ipK mo ks n).2.1 ≠ 0 then ipK mo ks n else if (ipK mo ks n).2.2.length = mo + 1 then ([], 81, (ipK mo ks n).2.2) else ((ipK mo ks n).1 ++ [2 * ((ipK mo ks n).2.2.length : Int)], 0, (ipK mo ks n).2.2 ++ [(0, 0)])
theorem ap_at {w x0 x y z : World} {F F1 F2 : Nat → Prop} {g mo : Nat} {ks : List Kd} {O : List Int} {l : Int} {v v' : Value} (hG : Gr y F2 g mo ks) (hC : Ch x0 y F1 F2) (hb2 : ∀ k, F2 k → k < y.heap.size) (hx : x = y.alloc (.cells #[.int .i64 l] 3 (0, 0))) (hCw : Ch w x0 F F1) (hO : Is' x0 w.heap.size v O) (hsep : ∀ q, v.ownBlock = some q → ¬ F1 q) (hg : x.grownBy z v.ownBlock) (hat : v'.ownBlock = v.ownBlock ∨ v'.ownBlock = some x.heap.size) : Gr z F2 g mo ks ∧ Ch w z F F2 ∧ (∀ q, v'.ownBlock = some q → ¬ F2 q) ∧ ∀ k, F2 k → k < z.heap.size := by
 have hxs : x.heap.size = y.heap.size + 1 := by rw [hx]; simp
 have hsep2 : ∀ q, v.ownBlock = some q → ¬ F2 q := fun q hq e => by
  rcases hC.foot q e with r | r
  ·exact hsep q hq r
  ·have := (hO.lt q hq).2; omega
 have hkeep : ∀ k, k < y.heap.size → v.ownBlock ≠ some k → z.heap[k]? = y.heap[k]? := fun k hk hn => by
  rw [hg.block k (by omega) (fun e => hn e.symm), hx]
  exact heap_alloc_old y _ hk
 have hzs := hg.size
 refine ⟨hG.kept (fun k hk hf => hkeep k hk (fun e => hsep2 k e hf)), ?_, fun q hq e => ?_, fun k hk => by have := hb2 k hk; omega⟩
 ·have hc2 := hCw.trans hC
  refine ⟨hg.os.trans (by rw [hx]; exact hc2.os), hg.tape.trans (by rw [hx]; exact hc2.tape), hg.output.trans (by rw [hx]; exact hc2.output), by have := hc2.size; omega, fun k hk hn => ?_, fun k hk => ?_⟩
  ·rw [hkeep k (by have := hc2.size; omega) (fun e => by have := (hO.lt k e).1; omega)]
   exact hc2.block k hk hn
  ·rcases hc2.foot k hk with r | r
   ·exact Or.inl r
   ·exact Or.inr ⟨r.1, by omega⟩
 ·rcases hat with r | r
  ·exact hsep2 q (r.symm.trans hq) e
  ·rw [r] at hq
   injection hq with hq
   have := hb2 q e
   omega
theorem bd_ch {w w' : World} {F F' : Nat → Prop} (h : ∀ k, F k → k < w.heap.size) (hC : Ch w w' F F') : ∀ k, F' k → k < w'.heap.size := fun k hk => by
 rcases hC.foot k hk with r | r
 ·exact Nat.lt_of_lt_of_le (h k r) hC.size
 ·exact r.2
theorem ipK_len {mo : Nat} {ks : List Kd} : ∀ n, (ipK mo ks n).2.1 = 0 → (ipK mo ks n).1.length = n
 | 0, _ => rfl
 | n + 1, h => by
  unfold ipK at h ⊢
  split at h
  ·rename_i q; exact absurd h q
  ·rename_i q
   rw [if_neg q]
   split at h
   ·cases h
   ·rename_i r
    rw [if_neg r]
    show ((ipK mo ks n).1 ++ [_]).length = _
    rw [List.length_append, ipK_len n (Classical.not_not.1 q)]
    rfl
theorem ipK_stop {mo : Nat} {ks : List Kd} {k : Nat} (h : (ipK mo ks k).2.1 ≠ 0) : ∀ d, ipK mo ks (k + d) = ipK mo ks k
 | 0 => rfl
 | d + 1 => by
  have ih := ipK_stop h d
  show (if (ipK mo ks (k + d)).2.1 ≠ 0 then ipK mo ks (k + d) else _) = _
  rw [ih, if_pos h]
theorem binputs_any {w : World} {F : Nat → Prop} {bl g mo n : Nat} {ks : List Kd} {so : Int} (h : Gr w F g mo ks) (hb : ∀ k, F k → k < w.heap.size) (hbl : ¬ F bl) (hc : w.cell? ⟨bl, 1, none⟩ = some (.pointer (some ⟨g, 0, none⟩))) (hn : max so 1 = (n : Int)) (hn2 : n ≤ 1000) :
  Calls Tryz.prog 48 #[.pointer (some ⟨bl, 0, none⟩), .int .i64 so] w fun ev w' => ∃ u, ev = .returned (.tuple #[u, .int .i64 (ipK mo ks n).2.1]) ∧ ∃ F', Wd w' F' u (ipK mo ks n).1 ∧ Gr w' F' g mo (ipK mo ks n).2.2 ∧ Ch w w' F F' := by
 obtain ⟨ti, ht0, hz0, hz1, hz2⟩ := info_any infoInt
 have HI : Hid _ := (⟨ht0, hz0, hz1, hz2⟩ : Tryz.prog.info? 3 = some ti ∧ ti.zero = _ ∧ ti.size = 1 ∧ ti.bytes = 8)
 have H : Hid _ := h
 have HB : Hid _ := hb
 have hlt : bl < w.heap.size := World.block_lt_of_cell? _ _ hc
 have HC : Hid (∀ wr F1, Ch w wr F F1 → wr.cell? ⟨bl, 1, none⟩ = some (.pointer (some ⟨g, 0, none⟩))) := fun wr F1 hC => (World.cell?_of_block (a := ⟨bl, 1, none⟩) (hC.block bl hlt hbl)).trans hc
 have HS : Hid (∀ k, (ipK mo ks k).2.1 = 0 → ipK mo ks (k + 1) = if (ipK mo ks k).2.2.length = mo + 1 then ([], 81, (ipK mo ks k).2.2) else ((ipK mo ks k).1 ++ [2 * ((ipK mo ks k).2.2.length : Int)], 0, (ipK mo ks k).2.2 ++ [(0, 0)])) := fun k e => by
  show (if (ipK mo ks k).2.1 ≠ 0 then _ else _) = _
  rw [if_neg (fun q => q e)]
 clear h hb hbl hc ht0 hz0 hz1 hz2
 go_enter Tryz.func48, Tryz.ntmps48
 go_wp2_with fail
 go_loopw [6, 11] (fun v i wr => ∃ k : Nat, k ≤ n ∧ i = .int .i64 (k : Int) ∧ Hid ((ipK mo ks k).2.1 = 0 ∧ ∃ F1, Gr wr F1 g mo (ipK mo ks k).2.2 ∧ Ch w wr F F1 ∧ Is' wr w.heap.size v (ipK mo ks k).1 ∧ (∀ q, v.ownBlock = some q → ¬ F1 q) ∧ ∀ k, F1 k → k < wr.heap.size)) (fun v i wr => n - (intOf i).toNat)
 case atStart => exact ⟨0, Nat.zero_le _, rfl, rfl, F, H.out, Ch.refl _ _, World.ownsRow_nil _ _ _ _, (fun q e => by cases e), HB.out⟩
 case round =>
  obtain ⟨k, hk, rfl, h0, F1, hG1, hC1, hO1, hsep1, hbd1⟩ := hrel
  by_cases hkn : k < n
  ·have hkI : (k : Int) < (n : Int) := by omega
   have d1 := HC.out wr F1 hC1
   have HIN : Hid _ := inp_any hG1
   have HST : Hid _ := HS.out k h0
   have hlen := ipK_len k h0
   obtain ⟨p, hp⟩ : ∃ p, p = ipK mo ks k := ⟨_, rfl⟩
   rw [← hp] at HIN HST hlen hO1 hG1
   have HTO : Hid (∀ d, (ipK mo ks (k + 1)).2.1 ≠ 0 → ipK mo ks (k + 1 + d) = ipK mo ks (k + 1)) := fun d e => ipK_stop e d
   have HLN : Hid (p.1.length = k) := hlen
   obtain ⟨aO, cO, eO, -⟩ := hO1.any
   rw [hlen] at eO
   subst eO
   have HK : Hid (Ch w wr F F1 ∧ Is' wr w.heap.size (.slice aO k cO) p.1 ∧ (∀ q, (Value.slice aO k cO).ownBlock = some q → ¬ F1 q) ∧ ∀ k, F1 k → k < wr.heap.size) := ⟨hC1, hO1, hsep1, hbd1⟩
   have hws : w.heap.size ≤ wr.heap.size := hC1.size
   by_cases hful : p.2.2.length = mo + 1
   ·have hr : inpF mo p.2.2 = (0, 81, p.2.2) := by unfold inpF; rw [if_pos hful]
    rw [hr] at HIN
    rw [if_pos hful] at HST
    have HF : Hid (ipK mo ks n = ([], 81, p.2.2)) := by
     have := HTO.out (n - (k + 1)) (by rw [HST.out]; show (81 : Int) ≠ 0; decide)
     rw [show k + 1 + (n - (k + 1)) = n by omega] at this
     unfold Hid
     rw [this, HST.out]
    clear hp hlen hG1 hC1 hO1 hsep1 hbd1 hr HST HTO h0
    go_wp2_with fail
    refine Calls.mono HIN.out ?_
    rintro ev w2 ⟨rfl, F2, hG2, hC2⟩
    have HE : Hid (∃ F', Wd w2 F' (.slice none 0 0) ([] : List Int) ∧ Gr w2 F' g mo p.2.2 ∧ Ch w w2 F F') := ⟨F2, Wd.nil _ _, hG2, HK.out.1.trans hC2⟩
    clear hG2 hC2 HIN
    go_wp2_with fail
    go_ret2
    rw [HF.out]
    exact ⟨_, rfl, HE.out⟩
   ·have hr : inpF mo p.2.2 = (2 * (p.2.2.length : Int), 0, p.2.2 ++ [(0, 0)]) := by unfold inpF; rw [if_neg hful]
    rw [hr] at HIN
    rw [if_neg hful] at HST
    obtain ⟨l, hl⟩ : ∃ l, l = 2 * (p.2.2.length : Int) := ⟨_, rfl⟩
    rw [← hl] at HIN HST
    clear hp hlen hG1 hC1 hO1 hsep1 hbd1 hr HTO h0 hl
    go_wp2_with fail
    refine Calls.mono HIN.out ?_
    rintro ev w2 ⟨rfl, F2, hG2, hC2⟩
    have hw2 : wr.heap.size ≤ w2.heap.size := hC2.size
    have HRW : Hid (Is' (w2.alloc (.cells #[.int .i64 l] 3)) w.heap.size (.slice aO k cO) p.1) := row_own HK.out.2.1 (fun z hz => by
     have hzl := (HK.out.2.1.lt z hz).2
     rw [heap_alloc_old w2 _ (by omega)]
     exact hC2.block z hzl (HK.out.2.2.1 z hz))
    have HG2 : Hid (Gr w2 F2 g mo (p.2.2 ++ [(0, 0)]) ∧ Ch wr w2 F1 F2) := ⟨hG2, hC2⟩
    clear hG2 hC2 HIN
    go_wp2_with (at_builtin; refine wpList_append_own_at _ rfl _ _ 81 rfl w.heap.size 3 ti _ 1 8 underWord HI.out.1 HI.out.2.1 HI.out.2.2.1 HI.out.2.2.2 rfl (by decide) _ _ _ rfl HRW.out ⟨w2.heap.size, 0, none⟩ 1 1 [_] rfl rfl (cell_one_new _ _ _) (fun u hu => by rw [List.mem_singleton.1 hu]; rfl) (by rw [HLN.out]; unfold maxLen; omega) (by rw [HLN.out]; omega) (by simp; omega) ?_; intro v1 z hown hgrow hnil hat)
    have hI3 : Is' z w.heap.size v1 (p.1 ++ [l]) := by
     unfold Is'
     rw [List.length_append, List.map_append]
     exact hown
    obtain ⟨q1, q2, q3, q4⟩ := ap_at (v := .slice aO k cO) HG2.out.1 HG2.out.2 (bd_ch HK.out.2.2.2 HG2.out.2) rfl HK.out.1 HK.out.2.1 HK.out.2.2.1 hgrow hat
    have HE : Hid ((ipK mo ks (k + 1)).2.1 = 0 ∧ ∃ F1, Gr z F1 g mo (ipK mo ks (k + 1)).2.2 ∧ Ch w z F F1 ∧ Is' z w.heap.size v1 (ipK mo ks (k + 1)).1 ∧ (∀ q, v1.ownBlock = some q → ¬ F1 q) ∧ ∀ k, F1 k → k < z.heap.size) := by
     rw [HST.out]
     exact ⟨rfl, F2, q1, q2, hI3, q3, q4⟩
    clear hown hgrow hnil hat hI3 q1 q2 q3 q4
    (try go_wp2_with fail)
    exact ⟨⟨k + 1, by omega, by go_num, HE.out⟩, by simp [intOf]; omega⟩
  ·obtain rfl : k = n := by omega
   have hkI : ¬ (k : Int) < (k : Int) := by omega
   have hlen := ipK_len k h0
   have HE : Hid ((ipK mo ks k).2.1 = 0 ∧ ∃ F', Wd wr F' u6 (ipK mo ks k).1 ∧ Gr wr F' g mo (ipK mo ks k).2.2 ∧ Ch w wr F F') := ⟨h0, F1, wd_of hO1 hsep1 (by rw [hlen]; omega), hG1, hC1⟩
   clear hG1 hC1 hO1 hsep1 hbd1 h0 hlen
   go_wp2_with fail
   go_ret2
   exact ⟨u6, by rw [HE.out.1]; rfl, HE.out.2⟩
end Go.Proofs.YtcahhahbcijkiaaGreat.Ag
