import Derived.Test.YtcahhahbcijkiaaGreatMg21
import Derived.Test.YtcahhahbcijkiaaGreatMg18
import Derived.Lib.AppendZerosOnto
import Derived.Test.YtcahhahbcijkiaaGreatBL3
import Derived.Lib.LazyBuf
namespace Go.Proofs.YtcahhahbcijkiaaGreat.Ag
set_option maxHeartbeats 12800000
set_option maxRecDepth 100000
open Go.RowKit
set_option linter.unusedSimpArgs false
set_option linter.unusedVariables false
def vN (ks : List Kd) (il : List Bool) (j : Nat) : Bool := sN ks (s0F ks il) (j + 1) j
def vI (ks : List Kd) (il : List Bool) (l : Int) : Bool := evV ks il l.toNat
theorem both_ins {mo : Nat} {ks : List Kd} {k : Kd} (hk : k ≠ (0, 0)) : insL (bothF mo ks k).2.2 = insL ks := by
 unfold bothF
 split
 ·rfl
 ·split
  ·rfl
  ·dsimp only
   rw [insL_snoc, if_neg (fun e => hk e.1), List.append_nil]
def Bs' (w : World) (base : Nat) (v : Value) (l : List Bool) : Prop := w.ownsRow base 4 1 v l.length (l.map Value.bool)
open Go.RowKit
open Go.RowKit
structure Wd (w : World) (D : Nat → Prop) (u : Value) (L : List Int) : Prop where
 ex : ∃ a c, u = .slice a L.length c ∧ L.length ≤ c ∧ L.length ≤ 50000 ∧ (a = none → c = 0) ∧ (L = [] ∨ ∃ r o, a = some ⟨r, o, none⟩ ∧ r < w.heap.size ∧ ¬ D r ∧ Li w r o L)
theorem underWord : Tryz.prog.underlying 81 = some (.slice 3) := by kernel_rfl
section
variable {w w' : World} {D D' : Nat → Prop} {u : Value} {L L2 : List Int}
theorem Li_kept {r o : Nat} (h : Li w r o L) (hb : w'.heap[r]? = w.heap[r]?) : Li w' r o L := fun j hj => (World.cell?_of_block (a := ⟨r, o + j, none⟩) hb).trans (h j hj)
theorem Wd.ch (h : Wd w D u L) (hc : Ch w w' D D') : Wd w' D' u L := by
 obtain ⟨a, c, e, h1, h2, h3, h4⟩ := h.ex
 refine ⟨a, c, e, h1, h2, h3, ?_⟩
 rcases h4 with h4 | ⟨r, o, q1, q2, q3, q4⟩
 ·exact Or.inl h4
 ·refine Or.inr ⟨r, o, q1, Nat.lt_of_lt_of_le q2 hc.size, fun e2 => ?_, Li_kept q4 (hc.block r q2 q3)⟩
  rcases hc.foot r e2 with q | q
  ·exact q3 q
  ·omega
theorem Wd.below (h : Wd w D u L) (hb : Below w.heap.size w w') : Wd w' D u L := h.ch (Ch.of_below D hb)
theorem Wd.nil (w : World) (D : Nat → Prop) : Wd w D (.slice none 0 0) [] := ⟨none, 0, rfl, Nat.le_refl _, by simp, fun _ => rfl, Or.inl rfl⟩
theorem Wd.sl (h : Wd w D u L) : ∃ a c, u = .slice a L.length c ∧ L.length ≤ c ∧ L.length ≤ 50000 := by
 obtain ⟨a, c, e, h1, h2, -⟩ := h.ex
 exact ⟨a, c, e, h1, h2⟩
theorem li_at {r o : Nat} (h : Li w r o L) : ∀ j v, (L.map (Value.int .i64))[j]? = some v → w.cell? ((⟨r, o, none⟩ : Addr).add j) = some v := by
 intro j v hj
 rw [List.getElem?_map] at hj
 cases hx : L[j]? with
 | none => rw [hx] at hj; cases hj
 | some x =>
  rw [hx] at hj
  obtain rfl : Value.int .i64 x = v := by simpa using hj
  have hjl : j < L.length := (List.getElem?_eq_some_iff.1 hx).1
  have e : (⟨r, o, none⟩ : Addr).add j = ⟨r, o + j, none⟩ := by by_cases hj0 : j = 0 <;> simp [Addr.add, hj0]
  rw [e, h j hjl, List.getD_eq_getElem?_getD, hx]
  rfl
theorem Wd.made {x : World} {cs : Array Value} {L : List Int} {c : Nat} (hb : Below w.heap.size w x) (hx : x.heap.size = w.heap.size) (hD : ∀ k, D k → k < w.heap.size) (hcs : ∀ j, j < L.length → cs[j]? = some (.int .i64 (L.getD j 0))) (hc : L.length ≤ c) (h5 : L.length ≤ 50000) : Wd (x.alloc (.cells cs 3)) D (.slice (some ⟨w.heap.size, 0, none⟩) L.length c) L ∧ Below w.heap.size w (x.alloc (.cells cs 3)) := by
 have hnew : (x.alloc (.cells cs 3)).heap[w.heap.size]? = some (.cells cs 3) := by rw [← hx]; exact heap_alloc_new x _
 refine ⟨⟨_, c, rfl, hc, h5, (fun e => by cases e), Or.inr ⟨w.heap.size, 0, rfl, by simp [hx], fun e => by have := hD _ e; omega, fun j hj => ?_⟩⟩, hb.trans (Below.mono (by go_grown : Below x.heap.size x _) (by omega))⟩
 rw [Nat.zero_add]
 exact cell_of hnew j (hcs j hj)
theorem get_app {L L2 : List Int} {z : Array Value} {j : Nat} (hj : j < (L ++ L2).length) : ((L.map (Value.int .i64)).toArray ++ (L2.map (Value.int .i64)).toArray ++ z)[j]? = some (.int .i64 ((L ++ L2).getD j 0)) := by
 have e : (L.map (Value.int .i64)).toArray ++ (L2.map (Value.int .i64)).toArray ++ z = ((L ++ L2).map (Value.int .i64)).toArray ++ z := by simp
 rw [e, Array.getElem?_append_left (by simpa using hj)]
 simp only [List.getElem?_toArray, List.getElem?_map, List.getD_eq_getElem?_getD]
 rw [List.getElem?_eq_getElem hj]
 rfl
theorem word_app {D2 : Nat → Prop} {a1 : Option Addr} {c1 : Nat} {u2 : Value} (ty : TypeId) (h1 : Wd w D (.slice a1 L.length c1) L) (h2 : Wd w D2 u2 L2) (hD : ∀ k, D k → k < w.heap.size) (hl : L.length + L2.length ≤ 50000) :
  ∃ u' w', (Builtin.append_ #[81, 81] ty #[.slice a1 L.length L.length, u2]).run Tryz.prog w = .ok u' w' ∧ Wd w' D u' (L ++ L2) ∧ Below w.heap.size w w' := by
 obtain ⟨i, hi, hz, hs, hb⟩ := info_any infoInt
 obtain ⟨a, c, e, g1, g2, g3, g4⟩ := h1.ex
 injection e with e1 e2 e3
 subst e1
 subst e3
 obtain ⟨a2, c2, rfl, k1, k2, k3, k4⟩ := h2.ex
 have hdr : Below w.heap.size w w.drew := ⟨rfl, rfl, rfl, Nat.le_refl _, fun _ _ => rfl⟩
 by_cases hn : L2 = []
 ·subst hn
  refine ⟨.slice a1 L.length L.length, w, ?_, ?_, Below.refl _ _⟩
  ·cases a2 with
   | none => cases a1 <;> simp [Builtin.append_, run_underlying underWord, sizeOf, typeInfo, hi, Builtin.lenOf, run_firstCells_none, storeCells, hs]
   | some b =>
    have hf := run_firstCells_some (P := Tryz.prog) w 1 0 b 0 c2 [] rfl (by simp)
    cases a1 <;> simp [Builtin.append_, run_underlying underWord, sizeOf, typeInfo, hi, Builtin.lenOf, hf, storeCells, hs]
  ·rw [List.append_nil]
   refine ⟨a1, L.length, rfl, Nat.le_refl _, g2, fun e => ?_, g4⟩
   have := g3 e
   omega
 ·have hn0 : 0 < L2.length := List.length_pos_iff.2 hn
  obtain ⟨r2, o2, rfl, q2, q3, q4⟩ := k4.resolve_left hn
  cases a1 with
  | none =>
   have hL : L = [] := by
    rcases g4 with e | ⟨r, o, e, -⟩
    ·exact e
    ·cases e
   subst hL
   have hr := run_append_nil (P := Tryz.prog) w 81 ty 3 i _ underWord hi hz ⟨r2, o2, none⟩ L2.length c2 (L2.map (Value.int .i64)) (by rw [hs]; simp) (li_at q4) hn0 (by omega) (by rw [hb]; omega)
   refine ⟨_, _, hr, ?_⟩
   have hg := grownCap_ge w L2.length 0 3
   rw [List.nil_append]
   refine Wd.made (L := L2) hdr rfl hD (fun j hj => ?_) hg k2
   have := get_app (L := []) (L2 := L2) (z := Builtin.zeroCells (Value.int .i64 0).cells (grownCap w L2.length 0 3 - L2.length)) (j := j) (by simpa using hj)
   simpa using this
  | some b =>
   have hold : ∀ j v, (L.map (Value.int .i64))[j]? = some v → w.cell? (b.add j) = some v := by
    rcases g4 with e | ⟨r, o, e, -, -, q⟩
    ·subst e; intro j v hj; simp at hj
    ·injection e with e
     subst e
     exact li_at q
   have hr := run_append_grow (P := Tryz.prog) w 81 ty 3 i _ underWord hi hz b L.length L.length (L.map (Value.int .i64)) (by rw [hs]; simp) hold ⟨r2, o2, none⟩ L2.length c2 (L2.map (Value.int .i64)) (by rw [hs]; simp) (li_at q4) (by omega) (by omega) (growslice_fits (by omega) (by rw [hb]; omega))
   refine ⟨_, _, hr, ?_⟩
   have hg := grownCap_ge w (L.length + L2.length) L.length 3
   have := Wd.made (L := L ++ L2) (c := grownCap w (L.length + L2.length) L.length 3) hdr rfl hD (fun j hj => get_app (z := Builtin.zeroCells (Value.int .i64 0).cells (grownCap w (L.length + L2.length) L.length 3 - (L.length + L2.length))) hj) (by rw [List.length_append]; exact hg) (by rw [List.length_append]; exact hl)
   rw [List.length_append] at this
   exact this
end
open Go.RowKit
section
variable {w : World} {D : Nat → Prop} {u : Value} {L : List Int}
theorem Is'.wd {B : Nat} (h : Is' w B u L) (hB : ∀ k, D k → k < B) (h5 : L.length ≤ 50000) : Wd w D u L := by
 rcases h.2 with ⟨e, h0⟩ | ⟨r, cap, cur, e, hb, hg, hc, hm, hs, ht⟩
 ·have hL : L = [] := List.eq_nil_of_length_eq_zero h0
  subst hL
  rw [e]
  exact Wd.nil w D
 ·refine ⟨_, cap, e, hc, h5, (fun e => by cases e), ?_⟩
  by_cases hL : L = []
  ·exact Or.inl hL
  ·obtain ⟨r', c', e2, -, -, hLi⟩ := h.li hL
   rw [e] at e2
   injection e2 with e2
   injection e2 with e2
   injection e2 with e2
   subst e2
   exact Or.inr ⟨r, 0, rfl, (Array.getElem?_eq_some_iff.1 hg).1, fun e => by have := hB _ e; omega, hLi⟩
theorem Wd.cell (h : Wd w D u L) {k : Nat} (hk : k < L.length) : ∃ r o c, u = .slice (some ⟨r, o, none⟩) L.length c ∧ r < w.heap.size ∧ w.cell? ⟨r, o + k, none⟩ = some (.int .i64 (L.getD k 0)) := by
 obtain ⟨a, c, e, h1, h2, h3, h4⟩ := h.ex
 obtain ⟨r, o, rfl, q2, -, q4⟩ := h4.resolve_left (fun e => by rw [e] at hk; simp at hk)
 exact ⟨r, o, c, e, q2, q4 k hk⟩
theorem top_any (h : Wd w D u L) (hL : 0 < L.length) :
  Calls Tryz.prog 104 #[u] w fun ev w' => ev = .returned (.int .i64 (L.getD (L.length - 1) 0)) ∧ w' = w := by
 obtain ⟨-, -, -, -, h5⟩ := h.sl
 obtain ⟨r, o, c, rfl, hr, hc⟩ := h.cell (k := L.length - 1) (by omega)
 obtain ⟨n, hn⟩ : ∃ n, n + 1 = L.length := ⟨L.length - 1, by omega⟩
 rw [show L.length - 1 = n by omega] at hc ⊢
 rw [← hn]
 obtain ⟨y, hy⟩ : ∃ y, y = L.getD n 0 := ⟨_, rfl⟩
 rw [← hy] at hc ⊢
 have h6 : n + 1 ≤ 50000 := by omega
 clear h hL hn hy h5
 go_enter Tryz.func104, Tryz.ntmps104
 go_wp2_with fail
 go_ret
 exact ⟨rfl, rfl⟩
theorem below_any {D2 : Nat → Prop} {u2 : Value} {L2 : List Int} (h : Wd w D u L) (h2 : Wd w D2 u2 L2) (hD : ∀ k, D k → k < w.heap.size) (hl : L.length + L2.length ≤ 50000) :
  Calls Tryz.prog 106 #[u, u2] w fun ev w' => ∃ u', ev = .returned u' ∧ Wd w' D u' (L ++ L2) ∧ Below w.heap.size w w' := by
 obtain ⟨a, c, rfl, h1, h5⟩ := h.sl
 obtain ⟨u', w', hap, hW, hB⟩ := word_app 81 h h2 hD hl
 obtain ⟨a2, c2, rfl, -, h52⟩ := h2.sl
 have HAP : Hid _ := hap
 have HW : Hid (Wd w' D u' (L ++ L2)) := hW
 have HB : Hid (Below w.heap.size w w') := hB
 have hcz : a = none → c = 0 := by
  obtain ⟨a', c', e, -, -, q, -⟩ := h.ex
  injection e with e1 e2 e3
  rw [e1, e3]; exact q
 obtain ⟨n, hn⟩ : ∃ n, n = L.length := ⟨_, rfl⟩
 obtain ⟨n2, hn2⟩ : ∃ n, n = L2.length := ⟨_, rfl⟩
 rw [← hn] at HAP h1 h5 hl ⊢
 rw [← hn2] at HAP hl h52 ⊢
 clear h h2 hap hW hB hn hn2 hD
 cases a with
 | none =>
  have hc0 := hcz rfl
  subst hc0
  obtain rfl : n = 0 := by omega
  clear hcz h1
  go_enter Tryz.func106, Tryz.ntmps106
  go_wp2_with (at_builtin; refine Lib.wpList_append_run _ rfl _ _ _ _ rfl _ _ rfl rfl _ _ HAP.out ?_)
  go_ret
  exact ⟨_, rfl, HW.out, HB.out⟩
 | some b =>
  clear hcz
  go_enter Tryz.func106, Tryz.ntmps106
  go_wp2_with (at_builtin; refine Lib.wpList_append_run _ rfl _ _ _ _ rfl _ _ rfl rfl _ _ HAP.out ?_)
  go_ret
  exact ⟨_, rfl, HW.out, HB.out⟩
theorem cut_any (h : Wd w D u L) {p q : Nat} (hqp : q ≤ p) (hp : p ≤ L.length) :
  Calls Tryz.prog 102 #[u, .int .i64 ((p : Int) - 1), .int .i64 (q : Int)] w fun ev w' => ∃ u', ev = .returned u' ∧ Wd w' D u' ((L.take p).drop q) ∧ w' = w := by
 obtain ⟨a, c, e, h1, h5, hcz, h4⟩ := h.ex
 subst e
 have hlen : ((L.take p).drop q).length = p - q := by rw [List.length_drop, List.length_take]; omega
 have HW : Hid (∀ b, a = some b → Wd w D (.slice (some (b.add q)) (p - q) (p - q)) ((L.take p).drop q)) := fun b hb => by
  refine ⟨_, p - q, by rw [hlen], by omega, by omega, (fun e => by cases e), ?_⟩
  by_cases hz : p - q = 0
  ·exact Or.inl (List.eq_nil_of_length_eq_zero (by omega))
  ·rcases h4 with e | ⟨r, o, e, q2, q3, q4⟩
   ·rw [e] at hp; simp at hp; omega
   ·rw [hb] at e
    injection e with e
    subst e
    refine Or.inr ⟨r, o + q, by by_cases hq0 : q = 0 <;> simp [Addr.add, hq0], q2, q3, fun j hj => ?_⟩
    have := q4 (q + j) (by omega)
    rw [Nat.add_assoc, this]
    congr 2
    rw [List.getD_eq_getElem?_getD, List.getD_eq_getElem?_getD, List.getElem?_drop, List.getElem?_take_of_lt (by omega)]
 have HN : Hid (p = 0 → Wd w D (.slice none 0 0) ((L.take p).drop q)) := fun e => by
  subst e
  rw [List.take_zero, List.drop_nil]
  exact Wd.nil w D
 obtain ⟨n, hn⟩ : ∃ n, n = L.length := ⟨_, rfl⟩
 rw [← hn] at h1 h5 hp ⊢
 clear h h4 hlen hn
 cases a with
 | none =>
  have hc0 := hcz rfl
  subst hc0
  obtain rfl : n = 0 := by omega
  obtain rfl : p = 0 := by omega
  obtain rfl : q = 0 := by omega
  clear hcz
  go_enter Tryz.func102, Tryz.ntmps102
  go_wp2_with fail
  go_ret
  exact ⟨_, rfl, by first | exact HN.out rfl | exact HN.out trivial, rfl⟩
 | some b =>
  have HW2 : Hid _ := HW.out b rfl
  have hpc : (p : Int) ≤ (c : Int) := by omega
  have hqp2 : (q : Int) ≤ (p : Int) := by omega
  by_cases hqq : q = p
  ·subst hqq
   have HE : Hid (Wd w D (.slice (some b) 0 0) ((L.take q).drop q)) := by
    have e : (L.take q).drop q = [] := by rw [List.drop_eq_nil_iff, List.length_take]; omega
    unfold Hid
    rw [e]
    exact ⟨some b, 0, rfl, Nat.le_refl _, by simp, (fun e => by cases e), Or.inl rfl⟩
   obtain ⟨R, hR⟩ : ∃ R, R = (L.take q).drop q := ⟨_, rfl⟩
   rw [← hR] at HE ⊢
   clear hcz HW HW2 hqp hqp2 hR HN
   go_enter Tryz.func102, Tryz.ntmps102
   go_wp2_with fail
   go_ret
   exact ⟨_, rfl, HE.out, rfl⟩
  ·have hqlt : (q : Int) < (p : Int) := by omega
   obtain ⟨R, hR⟩ : ∃ R, R = (L.take p).drop q := ⟨_, rfl⟩
   rw [← hR] at HW2 ⊢
   clear hcz HW hR HN
   go_enter Tryz.func102, Tryz.ntmps102
   go_wp2_with fail
   go_ret
   exact ⟨_, rfl, HW2.out, rfl⟩
end
open Go.RowKit
theorem turned_any {w : World} {D : Nat → Prop} {u : Value} {L : List Int} (h : Wd w D u L) (hL : ∀ x ∈ L, Sm x) (hD : ∀ k, D k → k < w.heap.size) :
  Calls Tryz.prog 107 #[u] w fun ev w' => ∃ u', ev = .returned u' ∧ Wd w' D u' (L.map tu) ∧ Below w.heap.size w w' := by
 obtain ⟨ti, ht0, hz0, hz1, hz2⟩ := info_any infoInt
 have HI : Hid _ := (⟨ht0, hz0, hz1, hz2⟩ : Tryz.prog.info? 3 = some ti ∧ ti.zero = _ ∧ ti.size = 1 ∧ ti.bytes = 8)
 have H : Hid _ := h
 have HS : Hid _ := hL
 have HD : Hid _ := hD
 obtain ⟨a, c, rfl, h1, h5⟩ := h.sl
 obtain ⟨n, hn⟩ : ∃ n, n = L.length := ⟨_, rfl⟩
 have HN : Hid _ := hn
 rw [← hn] at h1 h5 ⊢
 clear h hL hD hn ht0 hz0 hz1 hz2
 go_enter Tryz.func107, Tryz.ntmps107
 go_wp2_with fail
 go_loopw [3, 8] (fun v i wr => ∃ k : Nat, k ≤ n ∧ i = .int .i64 (k : Int) ∧ Hid (Is' wr w.heap.size v ((L.take k).map tu) ∧ Below w.heap.size w wr)) (fun v i wr => n - (intOf i).toNat)
 case atStart => exact ⟨0, Nat.zero_le _, rfl, World.ownsRow_nil _ _ _ _, Below.refl _ _⟩
 case round =>
  obtain ⟨k, hk, rfl, hH⟩ := hrel
  have hsr := hH.out.2.size
  by_cases hkn : k < n
  ·obtain ⟨r, o, c', e, hr, hc⟩ := H.out.cell (k := k) (by rw [← HN.out]; exact hkn)
   rw [← HN.out] at e
   injection e with e1 e2 e3
   have dx := keep_cell hH.out.2 hc
   obtain ⟨x, hx⟩ : ∃ x, L[k]? = some x := ⟨_, List.getElem?_eq_getElem (by rw [← HN.out]; exact hkn)⟩
   rw [List.getD_eq_getElem?_getD, hx, Option.getD_some] at dx
   have hsm := HS.out x (List.mem_of_getElem? hx)
   have HT : Hid (∀ wx, Calls Tryz.prog 130 #[.int .i64 x] wx fun e w' => e = .returned (.int .i64 (tu x)) ∧ w' = wx) := fun wx => bturn_any (by unfold Sm at hsm; omega) (by unfold Sm at hsm; omega) wx
   have HTK : Hid ((L.take (k + 1)).map tu = (L.take k).map tu ++ [tu x]) := by unfold Hid; rw [List.take_add_one, hx, List.map_append]; rfl
   have hlk : ((L.take k).map tu).length = k := by rw [List.length_map, List.length_take, ← HN.out]; omega
   have hkI : (k : Int) < (n : Int) := by omega
   obtain ⟨tx, htx⟩ : ∃ t, t = tu x := ⟨_, rfl⟩
   rw [← htx] at HT HTK
   have HIS : Hid (Is' wr w.heap.size u3 ((L.take k).map tu)) := hH.out.1
   have hrr : r < wr.heap.size := by omega
   rw [e1]
   clear e1 e2 e3 hc hx hsm htx
   go_wp2_with fail
   refine (HT.out _).mono ?_
   rintro ev wz ⟨rfl, hz⟩
   rw [hz]
   clear hz wz
   go_wp2_with (at_builtin; refine wpList_append_own_at _ rfl _ _ 81 rfl w.heap.size 3 ti _ 1 8 underWord HI.out.1 HI.out.2.1 HI.out.2.2.1 HI.out.2.2.2 rfl (by decide) _ _ _ rfl (row_kept HIS.out (fun _ hq => heap_alloc_old _ _ hq)) ⟨wr.heap.size, 0, none⟩ 1 1 [_] rfl rfl (cell_one_new _ _ _) (fun u hu => by rw [List.mem_singleton.1 hu]; rfl) (by rw [hlk]; unfold maxLen; omega) (by rw [hlk]; omega) (by simp; omega) ?_; intro v1 w3 hown hgrow hnil hat)
   have HI3 : Hid (Is' w3 w.heap.size v1 ((L.take (k + 1)).map tu)) := by
    unfold Hid Is'
    rw [HTK.out, List.length_append, List.map_append]
    exact hown
   have hb3 : Below w.heap.size w w3 := low_grown hH.out.2 hsr hgrow (fun z hz => (World.ownsRow.lt HIS.out z hz).1)
   clear hown hgrow hnil hat
   (try go_wp2_with fail)
   exact ⟨⟨k + 1, by omega, by go_num, HI3.out, hb3⟩, by simp [intOf]; omega⟩
  ·obtain rfl : k = n := by omega
   have hkI : ¬ (k : Int) < (k : Int) := by omega
   have h2 := hH.out.1
   rw [HN.out, List.take_length] at h2
   have HW : Hid (Wd wr D u3 (L.map tu)) := Is'.wd h2 HD.out (by rw [List.length_map, ← HN.out]; exact h5)
   have hb := hH.out.2
   clear h2
   go_wp2_with fail
   go_ret
   exact ⟨_, rfl, HW.out, hb⟩
def anyF (mo : Nat) (s : Gz) (L : List Int) : Int × Gz := L.reverse.foldl (fun p x => gOr mo p.2 p.1 x) (0, s)
def anyK (mo : Nat) (s : Gz) (L : List Int) (k : Nat) : Int × Gz := (L.reverse.take k).foldl (fun p x => gOr mo p.2 p.1 x) (0, s)
theorem anyK_step {mo : Nat} {s : Gz} {L : List Int} {k : Nat} (hk : k < L.length) : anyK mo s L (k + 1) = gOr mo (anyK mo s L k).2 (anyK mo s L k).1 (L.getD (L.length - 1 - k) 0) := by
 unfold anyK
 rw [List.take_add_one, List.foldl_append, List.getElem?_reverse hk, List.getD_eq_getElem?_getD, List.getElem?_eq_getElem (by omega)]
 rfl
theorem anyK_ok {mo : Nat} {s : Gz} {L : List Int} (hp : 0 < s.ks.length) : ∀ k, k ≤ L.length → Pg s.ks (anyK mo s L k).2.ks ∧ OkG (anyK mo s L k).2 (anyK mo s L k).1
 | 0, _ => ⟨Pg.refl _, ⟨Int.le_refl _, by show (0 : Int) < 2 * (s.ks.length : Int); omega⟩⟩
 | k + 1, h => by
  obtain ⟨h1, h2⟩ := anyK_ok (mo := mo) (s := s) (L := L) hp k (by omega)
  rw [anyK_step (by omega)]
  exact ⟨h1.trans gOr_pre, gOr_ok (by have := h1.length_le; omega)⟩
theorem anyK_all (mo : Nat) (s : Gz) (L : List Int) : anyK mo s L L.length = anyF mo s L := by
 unfold anyK anyF
 rw [← List.length_reverse, List.take_length]
theorem any_any {w : World} {F : Nat → Prop} {gs g mo : Nat} {s : Gz} (h : Gn w F gs g mo s) {u : Value} {L : List Int} (hW : Wd w (FG F gs) u L) (hL : ∀ x ∈ L, OkG s x) :
  Calls Tryz.prog 131 #[.pointer (some ⟨gs, 0, none⟩), u] w (GD w F gs g mo (anyF mo s L)) := by
 have H : Hid _ := h
 have HS : Hid _ := hL
 have HW : Hid _ := hW
 have hpos := h.pos
 obtain ⟨a, c, rfl, h1, h5⟩ := hW.sl
 obtain ⟨q, hq⟩ : ∃ q, q = anyF mo s L := ⟨_, rfl⟩
 rw [← hq]
 have HQ : Hid (q = anyK mo s L L.length) := by unfold Hid; rw [hq, anyK_all]
 obtain ⟨n, hn⟩ : ∃ n, n = L.length := ⟨_, rfl⟩
 have HN : Hid _ := hn
 rw [← hn] at h1 h5 HQ ⊢
 clear h hL hn hW hq
 go_enter Tryz.func131, Tryz.ntmps131
 go_wp2_with fail
 go_loopw [5, 9] (fun v i wr => ∃ k : Nat, k ≤ n ∧ i = .int .i64 (k : Int) ∧ v = .int .i64 (anyK mo s L k).1 ∧ Hid (∃ F', Gn wr F' gs g mo (anyK mo s L k).2 ∧ Ch w wr (FG F gs) (FG F' gs))) (fun v i wr => n - (intOf i).toNat)
 case atStart => exact ⟨0, Nat.zero_le _, rfl, rfl, F, H.out, Ch.refl _ _⟩
 case round =>
  obtain ⟨k, hk, rfl, rfl, hH⟩ := hrel
  obtain ⟨F1, hG1, hC1⟩ := hH.out
  by_cases hkn : k < n
  ·obtain ⟨r, o, c', e, hr, hc⟩ := (HW.out.ch hC1).cell (k := n - 1 - k) (by rw [← HN.out]; omega)
   rw [← HN.out] at e
   injection e with e1 e2 e3
   have hok := anyK_ok (mo := mo) (L := L) hpos k (by rw [← HN.out]; exact hk)
   have hst := anyK_step (mo := mo) (s := s) (L := L) (k := k) (by rw [← HN.out]; exact hkn)
   rw [← HN.out] at hst
   have hxl : n - 1 - k < L.length := by rw [← HN.out]; omega
   obtain ⟨x, hx⟩ : ∃ x, x = L.getD (n - 1 - k) 0 := ⟨_, rfl⟩
   have hxm : x ∈ L := by rw [hx, List.getD_eq_getElem?_getD, List.getElem?_eq_getElem hxl]; exact List.getElem_mem _
   rw [← hx] at hc hst
   have HC : Hid _ := gor_any hG1 hok.2 ((HS.out x hxm).grow hok.1)
   rw [← hst] at HC
   obtain ⟨m, hm⟩ : ∃ m : Nat, m + k + 1 = n := ⟨n - 1 - k, by omega⟩
   rw [show n - 1 - k = m by omega] at hc
   have hmI : (n : Int) - 1 - (k : Int) = (m : Int) := by omega
   have hkI : (k : Int) < (n : Int) := by omega
   have HD : Hid (Ch w wr (FG F gs) (FG F1 gs)) := hC1
   rw [e1]
   clear e1 e2 e3 hx hxm hxl hst hok hG1 hC1 hH hm
   go_wp2_with fail
   refine Calls.mono HC.out ?_
   rintro ev w2 ⟨rfl, F2, hG2, hC2⟩
   have HF : Hid (∃ F', Gn w2 F' gs g mo (anyK mo s L (k + 1)).2 ∧ Ch w w2 (FG F gs) (FG F' gs)) := ⟨F2, hG2, HD.out.trans hC2⟩
   clear hG2 hC2
   go_wp2_with fail
   exact ⟨⟨k + 1, by omega, by go_num, rfl, HF.out⟩, by simp [intOf]; omega⟩
  ·obtain rfl : k = n := by omega
   have hkI : ¬ (k : Int) < (k : Int) := by omega
   have HF : Hid (∃ F', Gn wr F' gs g mo q.2 ∧ Ch w wr (FG F gs) (FG F' gs)) := ⟨F1, by rw [HQ.out]; exact hG1, hC1⟩
   clear hG1 hC1 hH
   go_wp2_with fail
   go_ret
   exact ⟨by rw [HQ.out]; rfl, HF.out⟩
open Go.RowKit
theorem u64_and {n : Nat} (h : n ≤ 50000) : bits .and .u64 (n : Int) 4294967295 = (n : Int) := by
 have h1 : bits .and .u64 (n : Int) 4294967295 = IntKind.u64.wrap (((BitVec.ofInt 64 (n : Int) &&& BitVec.ofInt 64 4294967295).toNat : Nat) : Int) := rfl
 rw [h1, BitVec.toNat_and, toNat_small (by omega), show (BitVec.ofInt 64 4294967295).toNat = 2 ^ 32 - 1 from rfl, Nat.and_two_pow_sub_one_eq_mod, Nat.mod_eq_of_lt (by omega)]
 have e : (2 : Int) ^ IntKind.u64.bits = 18446744073709551616 := rfl
 simp only [IntKind.wrap, e, show IntKind.u64.signed = false from rfl, Bool.false_and]
 rw [if_neg (by decide)]
 omega
theorem mul64_one {n : Nat} (h : n ≤ 50000) (w : World) :
  Calls Tryz.prog 213 #[.int .u64 1, .int .u64 (n : Int)] w fun ev w' => ev = .returned (.tuple #[.int .u64 0, .int .u64 (n : Int)]) ∧ w' = w := by
 have x1 := u64_and h
 have x2 : bits .and .u64 1 4294967295 = 1 := by decide
 have x3 : (n : Int) / 4294967296 = 0 := by omega
 go_enter Tryz.func213, Tryz.ntmps213
 go_wp2_with fail
 go_ret2
 exact ⟨rfl, rfl⟩
theorem mul_one {n : Nat} (h : n ≤ 50000) (w : World) :
  Calls Tryz.prog 200 #[.int .u64 1, .int .u64 (n : Int)] w fun ev w' => ev = .returned (.tuple #[.int .u64 0, .int .u64 (n : Int)]) ∧ w' = w := by
 have HM : Hid (∀ wx, Calls Tryz.prog 213 #[.int .u64 1, .int .u64 (n : Int)] wx fun ev w' => ev = .returned (.tuple #[.int .u64 0, .int .u64 (n : Int)]) ∧ w' = wx) := fun wx => mul64_one h wx
 go_enter Tryz.func200, Tryz.ntmps200
 go_wp2_with fail
 refine (HM.out _).mono ?_
 rintro ev wz ⟨rfl, hz⟩
 rw [hz]
 clear hz wz
 go_wp2_with fail
 go_ret2
 exact ⟨rfl, rfl⟩
theorem size_int : (Tryz.prog.info? 3).map (·.size) = some 1 := by kernel_rfl
theorem copy_more {w : World} {b n t : Nat} {l : Int} (ty : TypeId) (h : w.rowIs b 3 n (fun j => .int .i64 (if j < t then l else 0))) (h0 : 0 < t) (ht : t < n) (hn : n ≤ 50000) :
  (Builtin.copy_ #[81, 81] ty #[.slice (some ⟨b, t, none⟩) (n - t) (n - t), .slice (some ⟨b, 0, none⟩) t n]).run Tryz.prog w = .ok (goInt ((min t (n - t) : Nat) : Int)) (w.setCells b t (List.replicate (min t (n - t)) (.int .i64 l))) ∧
  (w.setCells b t (List.replicate (min t (n - t)) (.int .i64 l))).rowIs b 3 n (fun j => .int .i64 (if j < t + min t (n - t) then l else 0)) := by
 constructor
 ·have := run_copy_cells (P := Tryz.prog) w 81 81 ty 3 b t (n - t) (n - t) ⟨b, 0, none⟩ t n (List.replicate (min t (n - t)) (.int .i64 l)) underWord size_int (by rw [List.length_replicate]) (fun j v hj => by
   have hjl : j < min t (n - t) := by have := (List.getElem?_eq_some_iff.1 hj).1; simpa using this
   have e : (⟨b, 0, none⟩ : Addr).add j = ⟨b, j, none⟩ := by by_cases hj0 : j = 0 <;> simp [Addr.add, hj0]
   have h2 := h.cell (show j < n by omega)
   rw [if_pos (by omega)] at h2
   rw [e, h2, ← hj, List.getElem?_replicate, if_pos hjl]) (fun j hj => by
   rw [List.length_replicate] at hj
   rw [h.cell (show t + j < n by omega)]
   rfl) (fun j _ => h.frozen _) (fun v hv => by rw [List.eq_of_mem_replicate hv]; rfl)
  rw [List.length_replicate] at this
  exact this
 ·refine (Go.rowIs_setCells (List.replicate (min t (n - t)) (.int .i64 l)) t w _ h).congr (fun j hj => ?_)
  rw [List.length_replicate]
  by_cases q : t ≤ j ∧ j < t + min t (n - t)
  ·rw [if_pos q, if_pos q.2, List.getElem?_replicate, if_pos (by omega)]
   rfl
  ·rw [if_neg q]
   by_cases q2 : j < t
   ·rw [if_pos q2, if_pos (by omega)]
   ·rw [if_neg q2, if_neg (by omega)]
end Go.Proofs.YtcahhahbcijkiaaGreat.Ag
