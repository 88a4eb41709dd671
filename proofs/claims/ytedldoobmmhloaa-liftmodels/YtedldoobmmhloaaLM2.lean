import Derived.Test.YtedldoobmmhloaaMg49
import Derived.Test.YtedldoobmmhloaaMg48
import Derived.Test.YtedldoobmmhloaaMg19
namespace Go.Proofs.Ytedldoobmmhloaa
open Go.RowKit
set_option linter.unusedSimpArgs false
set_option linter.unusedVariables false
set_option maxHeartbeats 1600000 in
theorem vars_nil {w : World} {B g mi mv mo : Nat} {v : Value} (h : Gr w B g mi mv v mo []) :
  Calls Try.prog 27 #[.pointer (some ⟨g, 0, none⟩)] w fun e w' => e = .returned (.slice none 0 0) ∧ Below w.heap.size w w' := by
 have c1 := h.c1
 obtain ⟨a, c, rfl⟩ : ∃ a c, v = .slice a 0 c := by
  rcases h.row.2 with ⟨rfl, -⟩ | ⟨r, cap, cur, rfl, -⟩
  ·exact ⟨none, 0, rfl⟩
  ·exact ⟨_, _, rfl⟩
 clear h
 go_enter Try.func27, Try.ntmps27
 go_wp2_with fail
 go_loopw [3, 11] (fun v i wr => v = .slice none 0 0 ∧ i = .int .i64 0 ∧ wr = w) (fun v i wr => 0)
 case atStart => exact ⟨rfl, rfl, rfl⟩
 case round =>
  obtain ⟨rfl, rfl, rfl⟩ := hrel
  go_wp2_with fail
  go_ret
  exact ⟨rfl, Below.refl _ _⟩
set_option maxRecDepth 20000 in
set_option maxHeartbeats 3200000 in
theorem comp_nil {w : World} {B g mi mv mo c : Nat} {v : Value} {a : Option Addr} {l : List Nv} (h : Gr w B g mi mv v mo []) (he : Le w a l) (hnm : ∀ x ∈ l, x.nm.size ≤ maxLen) (hl : l.length ≤ 1000) :
  Calls Try.prog 17 #[.pointer (some ⟨g, 0, none⟩), .slice a l.length c] w fun e w' => e = .returned (.slice none 0 0) ∧ Below w.heap.size w w' := by
 have HFV : Hid _ := fv_any (c := c) h he hnm hl
 have HVS : Hid (∀ wx, Below w.heap.size w wx → Calls Try.prog 27 #[.pointer (some ⟨g, 0, none⟩)] wx fun e w' => e = .returned (.slice none 0 0) ∧ Below wx.heap.size wx w') := fun wx hb => vars_nil (h.below hb)
 obtain ⟨n, hn⟩ : ∃ n, n = l.length := ⟨_, rfl⟩
 rw [← hn] at HFV ⊢
 clear h he hnm hl hn
 go_enter Try.func17, Try.ntmps17
 go_wp2_with fail
 refine Calls.mono HFV.out ?_
 rintro e w1 ⟨rfl, -, hB⟩
 go_wp2_with fail
 refine Calls.mono (HVS.out _ hB) ?_
 rintro e w2 ⟨rfl, hb2⟩
 have hB2 : Below w.heap.size w w2 := hB.trans (hb2.mono hB.size)
 clear hb2 hB
 go_wp2_with fail
 go_loopw [6, 19] (fun u i wr => u = .slice none 0 0 ∧ i = .int .i64 0 ∧ wr = w2) (fun u i wr => 0)
 case atStart => exact ⟨rfl, rfl, rfl⟩
 case round =>
  obtain ⟨rfl, rfl, rfl⟩ := hrel
  go_wp2_with fail
  go_ret
  exact ⟨rfl, hB2⟩
theorem comp_all {w : World} {B g mi mv mo c : Nat} {v : Value} {ns : List Nd} {a : Option Addr} {l : List Nv} (h : Gr w B g mi mv v mo ns) (he : Le w a l) (hnm : ∀ x ∈ l, x.nm.size ≤ maxLen) (hl : l.length ≤ 1000) (hk : ∀ b ∈ l, Bk b.v) :
  Calls Try.prog 17 #[.pointer (some ⟨g, 0, none⟩), .slice a l.length c] w fun e w' => ∃ u, e = .returned u ∧ Nv' w' w.heap.size u (cmpF ns (fvF ns l)) ∧ Below w.heap.size w w' := by
 cases ns with
 | nil => exact (comp_nil h he hnm hl).mono fun e w' hh => ⟨_, hh.1, World.ownsRow_nil _ _ _ _, hh.2⟩
 | cons n ns => exact comp_any h (by simp) he hnm hl (fvF_bk hk)
set_option maxHeartbeats 400000 in
theorem model_any {w : World} {B g mi mv mo c : Nat} {v : Value} {ns : List Nd} {a : Option Addr} {l : List Nv} (h : Gr w B g mi mv v mo ns) (he : Le w a l) (hnm : ∀ x ∈ l, x.nm.size ≤ maxLen) (hl : l.length ≤ 1000) (hk : ∀ b ∈ l, Bk b.v) :
  Calls Try.prog 15 #[.pointer (some ⟨g, 0, none⟩), .slice a l.length c] w fun e w' => ∃ u, e = .returned u ∧ Nv' w' w.heap.size u (cmpF ns (fvF ns l)) ∧ Below w.heap.size w w' := by
 have HC : Hid _ := comp_all (c := c) h he hnm hl hk
 obtain ⟨n, hn⟩ : ∃ n, n = l.length := ⟨_, rfl⟩
 rw [← hn] at HC ⊢
 clear h he hnm hl hk hn
 go_enter Try.func15, Try.ntmps15
 go_wp2_with fail
 refine Calls.mono HC.out ?_
 rintro e w1 ⟨u, rfl, hN, hb⟩
 go_wp2_with fail
 go_ret
 exact ⟨u, rfl, hN, hb⟩
theorem nv_at : ∀ (l : List Nv) (i : Nat) (x : Nv), l[i]? = some x → ∀ t, t < 4 → (l.flatMap Nv.cs)[i * 4 + t]? = x.cs[t]?
 | [], _, _, h, _, _ => by simp at h
 | y :: l, 0, x, h, t, ht => by
  obtain rfl : y = x := by simpa using h
  rw [List.flatMap_cons, Nat.zero_mul, Nat.zero_add, List.getElem?_append_left (by show t < 4; exact ht)]
 | y :: l, i + 1, x, h, t, ht => by
  rw [List.flatMap_cons, List.getElem?_append_right (by show 4 ≤ _; omega)]
  show (l.flatMap Nv.cs)[(i + 1) * 4 + t - 4]? = _
  rw [show (i + 1) * 4 + t - 4 = i * 4 + t by omega]
  exact nv_at l i x (by simpa using h) t ht
theorem le_of {w : World} {base : Nat} {u : Value} {l : List Nv} (h : Nv' w base u l) : ∃ a c, u = .slice a l.length c ∧ Le w a l := by
 rcases h.2 with ⟨rfl, h0⟩ | ⟨g, cap, cur, rfl, hb, hg, hc, hm, hs, ht⟩
 ·rw [List.eq_nil_of_length_eq_zero h0]; exact ⟨none, 0, rfl, Or.inl rfl⟩
 ·refine ⟨_, _, rfl, Or.inr ⟨g, 0, rfl, (Array.getElem?_eq_some_iff.1 hg).1, fun j x hj t y hy => ?_⟩⟩
  have ht4 : t < 4 := (List.getElem?_eq_some_iff.1 hy).1
  have hjl : j < l.length := (List.getElem?_eq_some_iff.1 hj).1
  have h1 := (nv_at l j x hj t ht4).trans hy
  rw [← ht, List.getElem?_take_of_lt (by omega)] at h1
  rw [Nat.zero_add]
  exact cell_of hg _ (by simpa using h1)
theorem cmp_bk {ns : List Nd} {G : List (Int × Bt)} (hv : Inv ns) (hG : ∀ p ∈ G, Bk p.2) : ∀ x ∈ (vsF ns).map (cmpV ns G), Bk x.v := by
 intro x hx
 obtain ⟨p, hp, rfl⟩ := List.mem_map.1 hx
 unfold cmpV
 show Bk (if _ then _ else _)
 split
 ·exact kn_bk hG p
 ·exact ⟨Int.le_refl _, by show (0 : Int) < _; decide, Int.le_refl _, by show (0 : Int) < _; decide⟩
theorem cmp_names {ns : List Nd} {G : List (Int × Bt)} (hn : ∀ n ∈ ns, n.nm.size ≤ 100) : ∀ x ∈ (vsF ns).map (cmpV ns G), x.nm.size ≤ 100 := by
 intro x hx
 obtain ⟨p, hp, rfl⟩ := List.mem_map.1 hx
 obtain ⟨i, n, rfl, hi, h2⟩ := vs_var hp
 rw [cmp_nm hi]
 exact hn n (List.mem_of_getElem? hi)
theorem bt_at : ∀ (l : List Bt) (i : Nat) (x : Bt), l[i]? = some x → ∀ t, t < 3 → (l.flatMap Bt.cs)[i * 3 + t]? = x.cs[t]?
 | [], _, _, h, _, _ => by simp at h
 | y :: l, 0, x, h, t, ht => by
  obtain rfl : y = x := by simpa using h
  rw [List.flatMap_cons, Nat.zero_mul, Nat.zero_add, List.getElem?_append_left (by show t < 3; exact ht)]
 | y :: l, i + 1, x, h, t, ht => by
  rw [List.flatMap_cons, List.getElem?_append_right (by show 3 ≤ _; omega)]
  show (l.flatMap Bt.cs)[(i + 1) * 3 + t - 3]? = _
  rw [show (i + 1) * 3 + t - 3 = i * 3 + t by omega]
  exact bt_at l i x (by simpa using h) t ht
theorem lb_of {w : World} {base : Nat} {u : Value} {l : List Bt} (h : Bv' w base u l) : ∃ a c, u = .slice a l.length c ∧ (l = [] ∨ ∃ g, a = some ⟨g, 0, none⟩ ∧ g < w.heap.size ∧ Lb w g 0 l) := by
 rcases h.2 with ⟨rfl, h0⟩ | ⟨g, cap, cur, rfl, hb, hg, hc, hm, hs, ht⟩
 ·rw [List.eq_nil_of_length_eq_zero h0]; exact ⟨none, 0, rfl, Or.inl rfl⟩
 ·refine ⟨_, _, rfl, Or.inr ⟨g, rfl, (Array.getElem?_eq_some_iff.1 hg).1, fun j x hj t y hy => ?_⟩⟩
  have ht3 : t < 3 := (List.getElem?_eq_some_iff.1 hy).1
  have hjl : j < l.length := (List.getElem?_eq_some_iff.1 hj).1
  have h1 := (bt_at l j x hj t ht3).trans hy
  rw [← ht, List.getElem?_take_of_lt (by omega)] at h1
  rw [Nat.zero_add]
  exact cell_of hg _ (by simpa using h1)
set_option maxRecDepth 20000 in
set_option maxHeartbeats 3200000 in
theorem all_nil {w : World} {N : Nat} (hN : N = 0) {B g mi mv mo c ci : Nat} {v : Value} {ns : List Nd} {a ai : Option Addr} {l : List Nv} (h : Gr w B g mi mv v mo ns) (he : Le w a l) (hnm : ∀ x ∈ l, x.nm.size ≤ maxLen) (hl : l.length ≤ 1000) :
  Calls Try.prog 32 #[.pointer (some ⟨g, 0, none⟩), .slice ai N ci, .slice a l.length c] w fun e w' => ∃ b, e = .returned (.tuple #[.slice (some b) 0 N, .int .i64 0]) ∧ Below w.heap.size w w' := by
 have HNW : Hid _ := nw_any (c := c) h he hnm hl
 obtain ⟨n, hn⟩ : ∃ n, n = l.length := ⟨_, rfl⟩
 rw [← hn] at HNW ⊢
 obtain ⟨t0, ht0, hz0, hz1, hz2⟩ := info_parts infoB
 have hlt : ¬ (0 : Int) < (N : Int) := by omega
 have hNb : N ≤ 9 := by omega
 clear h he hnm hl hn hN
 go_enter Try.func32, Try.ntmps32
 go_wp2_with fail
 refine Calls.mono HNW.out ?_
 rintro e w1 ⟨wb, mk, rfl, hwb, hmk, hW, hB⟩
 obtain ⟨w2, hmks, hown, hgr⟩ := run_make_own (P := Try.prog) w1 w1.heap.size 71 25 t0 (.agg #[.int .i64 0, .int .u64 0, .int .u64 0]) 3 underB ht0 hz0 hz1 .i64 .i64 N (by rw [hz2]; omega) (by unfold maxLen; omega) (Nat.le_refl _)
 have hb2 : Below w1.heap.size w1 w2 := ⟨hgr.os, hgr.tape, hgr.output, hgr.size, fun k hk => hgr.block k hk (fun e => by cases e)⟩
 have hB2 : Below w.heap.size w w2 := hB.trans (hb2.mono hB.size)
 clear hW hown hgr hb2 hB ht0 hz0 hz1 hz2
 go_wp2_with fail
 clear hmks
 go_loopw [9, 22] (fun u i wr => u = .slice (some ⟨w1.heap.size, 0, none⟩) 0 N ∧ i = .int .i64 0 ∧ wr = w2) (fun u i wr => 0)
 case atStart => exact ⟨rfl, rfl, rfl⟩
 case round =>
  obtain ⟨rfl, rfl, rfl⟩ := hrel
  go_wp2_with fail
  refine bodyPost_ret (v := .tuple #[.slice (some ⟨w1.heap.size, 0, none⟩) 0 N, .int .i64 0]) (by simp [results, Try.results32, go_sem]) rfl ?_
  exact ⟨_, rfl, hB2⟩
theorem neq_t (a b c : Int) (w : World) : (binOp .neq 25 (.agg #[.int .i64 a, .int .u64 b, .int .u64 c]) (.agg #[.int .i64 0, .int .u64 1, .int .u64 0])).run Try.prog w = .ok (.bool (!tru ⟨a, b, c⟩)) w := by
 unfold tru
 by_cases h1 : a = 0
 ·by_cases h2 : b = 1
  ·by_cases h3 : c = 0 <;> simp [go_sem, h1, h2, h3]
  ·simp [go_sem, h1, h2]
 ·simp [go_sem, h1]
theorem all_ids {A : Int → Int → Int → List Bt → Bt × Int} (hA : ApF A) {w : World} {B g mi mv mo c ci : Nat} {v : Value} {ns : List Nd} {a ai : Option Addr} {l : List Nv} {ids : List Int} (h : Gr w B g mi mv v mo ns) (hd : Gd ns) (he : Le w a l) (hnm : ∀ x ∈ l, x.nm.size ≤ maxLen) (hl : l.length ≤ 1000) (hk : ∀ b ∈ l, Bk b.v) (hF : Full ns (fvF ns l))
  (hids : ids = [] ∨ ∃ gi oi, ai = some ⟨gi, oi, none⟩ ∧ gi < w.heap.size ∧ Li w gi oi ids) (hil : ids.length ≤ 1000) (h64 : ∀ p ∈ ids, w64 p) :
  Calls Try.prog 32 #[.pointer (some ⟨g, 0, none⟩), .slice ai ids.length ci, .slice a l.length c] w fun e w' => ((∀ p ∈ ids, hasB ns.length p = true) ∧ ∃ b d, e = .returned (.tuple #[.slice b ids.length d, .int .i64 0]) ∧ (ids.map (val A ns (fvF ns l)) = [] ∨ ∃ r, b = some ⟨r, 0, none⟩ ∧ r < w'.heap.size ∧ Lb w' r 0 (ids.map (val A ns (fvF ns l)))) ∧ Below w.heap.size w w') ∨ ((∃ p ∈ ids, hasB ns.length p = false) ∧ ∃ u er, (er != 0) = true ∧ e = .returned (.tuple #[u, .int .i64 er]) ∧ Below w.heap.size w w') := by
 rcases hids with rfl | ⟨gi, oi, rfl, hgi, hLi⟩
 ·refine (all_nil (N := 0) rfl h he hnm hl).mono fun e w' hh => Or.inl ⟨(fun _ hp => nomatch hp), ?_⟩
  obtain ⟨b, rfl, hb⟩ := hh
  exact ⟨_, _, rfl, Or.inl rfl, hb⟩
 ·have hGB := fvF_bk (ns := ns) hk
  have hv := h.inv
  have HA := all_of (c := c) (ci := ci) (vs := (aLoop (vG A ns (fvF ns l)) ids []).1) (er := (aLoop (vG A ns (fvF ns l)) ids []).2) (VF := vG A ns (fvF ns l)) (I := fun k M => (Kok ns M ∧ Cst A ns (fvF ns l) M)) h he hnm hl hLi hgi hil
   (fun k p M' wx wb mg mk hp hI hbk hgr hmk hW => (valg hA hd.nok (gr_of h ⟨hgr.os, hgr.tape, hgr.output, hgr.size, fun k hk => hbk k hk⟩ hmk) hW (h64 p (List.mem_of_getElem? hp)) hGB hI.1.1 (fun q hq => by have := cone_in hv hq; omega))) ⟨kok_nil ns, cst_nil A ns _⟩ (fun k p M' hp hI h0 => by
    cases hb : hasB ns.length p with
    | true => obtain ⟨-, c1, c2, -, -⟩ := vG_step hA hv hd hGB hF hI.1 hI.2 hb; exact ⟨c1, c2⟩
    | false => rw [vG_no hI.2 hb] at h0; cases h0) rfl
  refine HA.mono fun e w' hh => ?_
  obtain ⟨u, rfl, hu, hb⟩ := hh
  by_cases hall : ∀ p ∈ ids, hasB ns.length p = true
  ·have e1 := aloop_yes hA hv hd hGB hF ids [] (kok_nil ns) (cst_nil A ns _) hall
   rw [e1] at hu ⊢
   unfold AllR at hu
   rw [if_pos rfl] at hu
   obtain ⟨b, d, rfl, hb2⟩ := lb_of hu
   rw [List.length_map]
   exact Or.inl ⟨hall, b, d, rfl, hb2, hb⟩
  ·have hno : ∃ p ∈ ids, hasB ns.length p = false := by
    simp only [Classical.not_forall] at hall
    obtain ⟨p, hp, hq⟩ := hall
    exact ⟨p, hp, by simpa using hq⟩
   have e1 := aloop_no hA hv hd hGB hF ids [] (kok_nil ns) (cst_nil A ns _) hno
   exact Or.inr ⟨hno, u, _, by simpa using e1, rfl, hb⟩
set_option maxRecDepth 20000 in
set_option maxHeartbeats 3200000 in
theorem holds_any {A : Int → Int → Int → List Bt → Bt × Int} (hA : ApF A) {w0 : World} {B g mi mv mo c ci : Nat} {v : Value} {ns : List Nd} {a ai : Option Addr} {l : List Nv} {ids : List Int} (h : Gr w0 B g mi mv v mo ns) (hd : Gd ns) (hnn : ∀ n ∈ ns, n.nm.size ≤ 100) (he : Le w0 a l) (hnm : ∀ x ∈ l, x.nm.size ≤ maxLen) (hl : l.length ≤ 1000) (hns : ns.length ≤ 1000) (hk : ∀ b ∈ l, Bk b.v)
  (hids : ids = [] ∨ ∃ gi oi, ai = some ⟨gi, oi, none⟩ ∧ gi < w0.heap.size ∧ Li w0 gi oi ids) (hil : ids.length ≤ 1000) (h64 : ∀ p ∈ ids, w64 p) :
  Calls Try.prog 20 #[.pointer (some ⟨g, 0, none⟩), .slice ai ids.length ci, .slice a l.length c] w0 fun e w0' => e = .returned (.bool (hldF A ns (fvF ns (cmpF ns (fvF ns l))) ids)) ∧ Below w0.heap.size w0 w0' := by
 have HMO : Hid _ := model_any (c := c) h he hnm hl hk
 have HAL : Hid (∀ wx b cb, Below w0.heap.size w0 wx → Le wx b (cmpF ns (fvF ns l)) → _) := fun wx b cb hb hle => all_ids (c := cb) (ci := ci) (ids := ids) (ai := ai) hA (h.below hb) hd hle (fun x hx => by have := cmp_names hnn x hx; unfold maxLen; omega) (by unfold cmpF; rw [List.length_map]; have := vsF_len ns; omega) (cmp_bk h.inv (fvF_bk hk)) (full_cmp h.inv _) (by
  rcases hids with e | ⟨gi, oi, h1, h2, h3⟩
  ·exact Or.inl e
  ·exact Or.inr ⟨gi, oi, h1, Nat.lt_of_lt_of_le h2 hb.size, fun j hj => bel_cell hb h2 (h3 j hj)⟩) hil h64
 obtain ⟨E, hE⟩ : ∃ E, E = cmpF ns (fvF ns l) := ⟨_, rfl⟩
 rw [← hE] at HMO HAL ⊢
 obtain ⟨V, hV⟩ : ∃ V, V = val A ns (fvF ns E) := ⟨_, rfl⟩
 have HF : Hid (hldF A ns (fvF ns E) ids = ids.all fun p => hasB ns.length p && tru (V p)) := by unfold Hid; rw [hV]; rfl
 rw [← hV] at HAL
 obtain ⟨R, hR⟩ : ∃ R, R = hldF A ns (fvF ns E) ids := ⟨_, rfl⟩
 rw [← hR] at HF ⊢
 obtain ⟨n, hn⟩ : ∃ n, n = l.length := ⟨_, rfl⟩
 obtain ⟨N, hN⟩ : ∃ N, N = ids.length := ⟨_, rfl⟩
 have HNN : Hid _ := hN
 rw [← hn] at HMO ⊢
 rw [← hN] at HAL hil ⊢
 have HB : Hid (∀ wx, Calls Try.prog 33 #[.bool true] wx fun e w0' => e = .returned (.agg #[.int .i64 0, .int .u64 1, .int .u64 0]) ∧ Below wx.heap.size wx w0') := fun wx => bool_any true wx
 have hqn := neq_t
 clear h hd hnn he hnm hl hns hk hids h64 hE hV hR hn hN
 go_enter Try.func20, Try.ntmps20
 go_wp2_with fail
 refine Calls.mono HMO.out ?_
 rintro e w1 ⟨u, rfl, hN1, hb1⟩
 obtain ⟨b1, c1, rfl, hL1⟩ := le_of hN1
 have HA1 : Hid _ := HAL.out w1 b1 c1 hb1 hL1
 have HB1 : Hid _ := hb1
 obtain ⟨n1, hn1⟩ : ∃ n1, n1 = E.length := ⟨_, rfl⟩
 rw [← hn1] at HA1 ⊢
 clear HMO HAL hN1 hL1 hn1 hb1
 go_wp2_with fail
 refine Calls.mono HA1.out ?_
 rintro e w (⟨hall, b2, d2, rfl, hLb, hb2⟩ | ⟨hno, u2, er, hne, rfl, hb2⟩)
 ·have hB2 : Below w0.heap.size w0 w := HB1.out.trans (hb2.mono HB1.out.size)
  have HRV : Hid (R = ids.all fun p => tru (V p)) := by
   unfold Hid
   rw [HF.out]
   refine Bool.eq_iff_iff.2 ?_
   simp only [List.all_eq_true, Bool.and_eq_true]
   exact ⟨fun h p hp => (h p hp).2, fun h p hp => ⟨hall p hp, h p hp⟩⟩
  have HLB : Hid _ := hLb
  clear HA1 hall hLb hb2 HF HB1
  go_wp2_with fail
  go_loopw [24] (fun i wr => ∃ k : Nat, k ≤ N ∧ i = .int .i64 (k : Int) ∧ Hid (∀ p ∈ ids.take k, tru (V p) = true) ∧ Below w.heap.size w wr) (fun i wr => N - (intOf i).toNat)
  case atStart => exact ⟨0, Nat.zero_le _, rfl, (by unfold Hid; simp), Below.refl _ _⟩
  case round =>
   obtain ⟨k, hkN, rfl, hH, hbr⟩ := hrel
   have hBr : Below w0.heap.size w0 wr := hB2.trans (hbr.mono hB2.size)
   have hsr := hbr.size
   by_cases hlt : k < N
   ·obtain ⟨p, hp⟩ : ∃ p, ids[k]? = some p := ⟨_, List.getElem?_eq_getElem (by rw [← HNN.out]; exact hlt)⟩
    have hpv : (ids.map V)[k]? = some (V p) := by rw [List.getElem?_map, hp]; rfl
    obtain ⟨r, rfl, hr, hc⟩ := HLB.out.resolve_left (fun e => by rw [e] at hpv; simp at hpv)
    obtain ⟨xb, hx⟩ : ∃ x, x = V p := ⟨_, rfl⟩
    rw [← hx] at hpv
    have d0 : wr.cell? ⟨r, k * 3, none⟩ = some (.int .i64 xb.w) := by have := hc k xb hpv 0 _ rfl; rw [Nat.zero_add] at this; exact bel_cell hbr hr this
    have d1 : wr.cell? ⟨r, k * 3 + 1, none⟩ = some (.int .u64 xb.lo) := by have := hc k xb hpv 1 _ rfl; rw [Nat.zero_add] at this; exact bel_cell hbr hr this
    have d2 : wr.cell? ⟨r, k * 3 + 2, none⟩ = some (.int .u64 xb.hi) := by have := hc k xb hpv 2 _ rfl; rw [Nat.zero_add] at this; exact bel_cell hbr hr this
    have hltI : (k : Int) < (N : Int) := by omega
    have HXV : Hid _ := hx
    have HP : Hid _ := hp
    clear hc hpv hx hp
    cases ht : tru xb
    ·have hqx : ∀ wx, (binOp .neq 25 (.agg #[.int .i64 xb.w, .int .u64 xb.lo, .int .u64 xb.hi]) (.agg #[.int .i64 0, .int .u64 1, .int .u64 0])).run Try.prog wx = .ok (.bool true) wx := fun wx => by have := hqn xb.w xb.lo xb.hi wx; rw [show tru ⟨xb.w, xb.lo, xb.hi⟩ = false from ht] at this; exact this
     have HT : Hid (R = false) := by
      unfold Hid
      rw [HRV.out]
      exact List.all_eq_false.2 ⟨p, List.mem_of_getElem? HP.out, by rw [← HXV.out, ht]; decide⟩
     clear hqn ht
     go_wp2_with fail
     go_region_held3 (fun x => x.cell? ⟨wr.heap.size, 0, none⟩ = some (.int .i64 xb.w) ∧ x.cell? ⟨wr.heap.size, 1, none⟩ = some (.int .u64 xb.lo) ∧ x.cell? ⟨wr.heap.size, 2, none⟩ = some (.int .u64 xb.hi) ∧ Below w.heap.size w x)
      ((refine ⟨?_, ?_, ?_, ?_⟩ <;> first | (simp [go_sem]; done) | (refine cv_some ?_; simp [go_sem]; done) | (simp [go_sem, KFr, KFrz0]; done) | (refine cv_some ?_; simp [go_sem, KFr, KFrz0]; done) | (simp [go_sem, d0]; done) | (refine cv_some ?_; simp [go_sem, d0]; done) | (refine put_below ?_ ?_ <;> first | assumption | omega) | (have hH := ‹_ ∧ _ ∧ _ ∧ _›; exact put_below hH.2.2.2 (by omega)) | go_grown))
      ((first | (go_at_call_of 33 (Value.bool true); refine (HB.out _).mono ?_; rintro e wq ⟨rfl, hb⟩; have hb' := below_step (w := w) (by go_grown) hb; have hs := hb'.size; have KFr : wq.cell? ⟨wr.heap.size, 0, none⟩ = some (.int .i64 xb.w) ∧ wq.cell? ⟨wr.heap.size, 1, none⟩ = some (.int .u64 xb.lo) ∧ wq.cell? ⟨wr.heap.size, 2, none⟩ = some (.int .u64 xb.hi) := ⟨keep_cell hb (by first | (simp [go_sem]; done) | (simp [go_sem, KFr]; done) | (simp [go_sem, d0]; done) | (simp [go_sem, KFr, World.cell?_alloc_some]; done) | (simp [go_sem, d0, World.cell?_alloc_some]; done) | (simp [go_sem, KFr, frozen?_alloc_cells]; done) | (simp [go_sem, d0, frozen?_alloc_cells]; done)), keep_cell hb (by first | (simp [go_sem]; done) | (simp [go_sem, KFr]; done) | (simp [go_sem, d0]; done) | (simp [go_sem, KFr, World.cell?_alloc_some]; done) | (simp [go_sem, d0, World.cell?_alloc_some]; done) | (simp [go_sem, KFr, frozen?_alloc_cells]; done) | (simp [go_sem, d0, frozen?_alloc_cells]; done)), keep_cell hb (by first | (simp [go_sem]; done) | (simp [go_sem, KFr]; done) | (simp [go_sem, d0]; done) | (simp [go_sem, KFr, World.cell?_alloc_some]; done) | (simp [go_sem, d0, World.cell?_alloc_some]; done) | (simp [go_sem, KFr, frozen?_alloc_cells]; done) | (simp [go_sem, d0, frozen?_alloc_cells]; done))⟩; have KFrz0 : wr.heap.size < wq.heap.size := World.block_lt_of_cell? _ _ KFr.1; clear hb)))
     obtain ⟨-, -, -, hBq⟩ := ‹_ ∧ _ ∧ _ ∧ _›
     go_wp2_with fail
     go_ret
     exact ⟨by rw [HT.out]; rfl, hB2.trans (hBq.mono hB2.size)⟩
    ·have hqx : ∀ wx, (binOp .neq 25 (.agg #[.int .i64 xb.w, .int .u64 xb.lo, .int .u64 xb.hi]) (.agg #[.int .i64 0, .int .u64 1, .int .u64 0])).run Try.prog wx = .ok (.bool false) wx := fun wx => by have := hqn xb.w xb.lo xb.hi wx; rw [show tru ⟨xb.w, xb.lo, xb.hi⟩ = true from ht] at this; exact this
     have HS : Hid (∀ q ∈ ids.take (k + 1), tru (V q) = true) := by
      unfold Hid
      intro q hq
      rw [List.take_add_one, HP.out] at hq
      rcases List.mem_append.1 hq with hq | hq
      ·exact hH.out q hq
      ·rw [List.mem_singleton.1 hq, ← HXV.out]; exact ht
     clear hqn ht
     go_wp2_with fail
     go_region_held3 (fun x => x.cell? ⟨wr.heap.size, 0, none⟩ = some (.int .i64 xb.w) ∧ x.cell? ⟨wr.heap.size, 1, none⟩ = some (.int .u64 xb.lo) ∧ x.cell? ⟨wr.heap.size, 2, none⟩ = some (.int .u64 xb.hi) ∧ Below w.heap.size w x)
      ((refine ⟨?_, ?_, ?_, ?_⟩ <;> first | (simp [go_sem]; done) | (refine cv_some ?_; simp [go_sem]; done) | (simp [go_sem, KFr, KFrz0]; done) | (refine cv_some ?_; simp [go_sem, KFr, KFrz0]; done) | (simp [go_sem, d0]; done) | (refine cv_some ?_; simp [go_sem, d0]; done) | (refine put_below ?_ ?_ <;> first | assumption | omega) | (have hH := ‹_ ∧ _ ∧ _ ∧ _›; exact put_below hH.2.2.2 (by omega)) | go_grown))
      ((first | (go_at_call_of 33 (Value.bool true); refine (HB.out _).mono ?_; rintro e wq ⟨rfl, hb⟩; have hb' := below_step (w := w) (by go_grown) hb; have hs := hb'.size; have KFr : wq.cell? ⟨wr.heap.size, 0, none⟩ = some (.int .i64 xb.w) ∧ wq.cell? ⟨wr.heap.size, 1, none⟩ = some (.int .u64 xb.lo) ∧ wq.cell? ⟨wr.heap.size, 2, none⟩ = some (.int .u64 xb.hi) := ⟨keep_cell hb (by first | (simp [go_sem]; done) | (simp [go_sem, KFr]; done) | (simp [go_sem, d0]; done) | (simp [go_sem, KFr, World.cell?_alloc_some]; done) | (simp [go_sem, d0, World.cell?_alloc_some]; done) | (simp [go_sem, KFr, frozen?_alloc_cells]; done) | (simp [go_sem, d0, frozen?_alloc_cells]; done)), keep_cell hb (by first | (simp [go_sem]; done) | (simp [go_sem, KFr]; done) | (simp [go_sem, d0]; done) | (simp [go_sem, KFr, World.cell?_alloc_some]; done) | (simp [go_sem, d0, World.cell?_alloc_some]; done) | (simp [go_sem, KFr, frozen?_alloc_cells]; done) | (simp [go_sem, d0, frozen?_alloc_cells]; done)), keep_cell hb (by first | (simp [go_sem]; done) | (simp [go_sem, KFr]; done) | (simp [go_sem, d0]; done) | (simp [go_sem, KFr, World.cell?_alloc_some]; done) | (simp [go_sem, d0, World.cell?_alloc_some]; done) | (simp [go_sem, KFr, frozen?_alloc_cells]; done) | (simp [go_sem, d0, frozen?_alloc_cells]; done))⟩; have KFrz0 : wr.heap.size < wq.heap.size := World.block_lt_of_cell? _ _ KFr.1; clear hb)))
     obtain ⟨-, -, -, hBq⟩ := ‹_ ∧ _ ∧ _ ∧ _›
     go_wp2_with fail
     exact ⟨⟨k + 1, by omega, by go_num, HS.out, hBq⟩, by simp [intOf]; omega⟩
   ·obtain rfl : k = N := by omega
    have hltI : ¬ (k : Int) < (k : Int) := by omega
    have HT : Hid (R = true) := by
     unfold Hid
     rw [HRV.out, List.all_eq_true]
     have := hH.out
     rw [HNN.out, List.take_length] at this
     exact this
    go_wp2_with fail
    go_ret
    exact ⟨by rw [HT.out]; rfl, hBr⟩
 ·have hB2 : Below w0.heap.size w0 w := HB1.out.trans (hb2.mono HB1.out.size)
  have HT : Hid (R = false) := by
   unfold Hid
   rw [HF.out]
   obtain ⟨p, hp, hh⟩ := hno
   exact List.all_eq_false.2 ⟨p, hp, by rw [hh]; simp⟩
  clear HA1 HB1 hno hb2 HF
  go_wp2_with fail
  go_ret
  exact ⟨by rw [HT.out]; rfl, hB2⟩
end Go.Proofs.Ytedldoobmmhloaa
