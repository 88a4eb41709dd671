import Derived.Test.YtedldoobmmhloaaMg12
import Derived.Test.YtedldoobmmhloaaLin2
import Derived.BigRegion
namespace Go.Proofs.Ytedldoobmmhloaa
set_option maxHeartbeats 12800000
set_option maxRecDepth 100000
open Go.RowKit
set_option linter.unusedSimpArgs false
set_option linter.unusedVariables false
def sl (N p : Nat) : Value := .slice (some ⟨p / 2 ^ 64, 0, none⟩) N (p % 2 ^ 64)
theorem sl_own {w : World} {base : Nat} {e : TypeId} {sz : Nat} {v : Value} {N : Nat} {xs : List Value} (h : w.ownsRow base e sz v N xs) (hl : 0 < N) : ∃ p, v = sl N p := by
 rcases h.2 with ⟨-, h0⟩ | ⟨g, c, cur, rfl, -, -, -, hc, -⟩
 ·omega
 ·refine ⟨g * 2 ^ 64 + c, ?_⟩
  have hc' : c < 2 ^ 64 := by unfold maxLen at hc; omega
  unfold sl
  rw [show (g * 2 ^ 64 + c) / 2 ^ 64 = g by omega, show (g * 2 ^ 64 + c) % 2 ^ 64 = c by omega]
theorem wp_append_at {P : Program} (w : World) {o : Oper} {a : Act} {K : Act → World → Prop} {Q : Exit → Act → World → Prop} (s x : Operand) (t : TypeId)
  (ho : o.op = .call { callee := .builtin .append, args := #[s, x], argTypes := #[t, t] })
  (base : Nat) (e : TypeId) (i : TypeInfo) (z : Value) (size bytes : Nat) (ht : P.underlying t = some (.slice e)) (hi : P.info? e = some i) (hz : i.zero = some z)
  (hsize : i.size = size) (hby : i.bytes = bytes) (hzs : z.cells.size = size) (hsz : 0 < size)
  (v : Value) (n : Nat) (xs : List Value) (hs : a.eval s = v) (hown : w.ownsRow base e size v n xs)
  (ad : Addr) (m c : Nat) (news : List Value) (hx : a.eval x = .slice (some ad) m c) (hl : news.length = m * size) (hnews : ∀ j u, news[j]? = some u → w.cell? (ad.add j) = some u) (h1 : ∀ u ∈ news, u.oneCell' = true)
  (h63 : n + m ≤ maxLen) (hbytes : (n + m) * bytes ≤ 140737488355328) (hbase : base ≤ w.heap.size)
  (h : ∀ v' w', w'.ownsRow base e size v' (n + m) (xs ++ news) → w.grownBy w' v.ownBlock → (v'.ownBlock = v.ownBlock ∨ v'.ownBlock = some w.heap.size) → K (a.put o.dst v') w') : o.wp P a w K Q := by
 obtain ⟨v', w', hr, h2, h3, h4, h5⟩ := run_append_own_at (P := P) w base t o.type e i z size bytes ht hi hz hsize hby hzs hsz v n xs hown ad m c news hl hnews h1 h63 hbytes hbase
 unfold Oper.wp execOp
 simp only [ho, resolve, invoke, builtin, Sem.run_bind, Sem.run_pure, Result.andThen_ok, List.map_toArray, List.map_cons, List.map_nil, hs, hx, hr]
 exact h v' w' h2 h3 h5
theorem info36 : (Try.prog.info? 43).map (fun i => (i.zero, i.size, i.bytes)) = some (some (.agg #[.int .i64 0, .int .i64 0, .int .i64 0, .int .i64 0, .int .i64 0, .int .i64 0, .int .i64 0, .int .i64 0, .int .u64 0, .int .u64 0, .string ⟨#[]⟩]), 11, 96) := by kernel_rfl
theorem under22 : Try.prog.underlying 37 = some (.slice 43) := by kernel_rfl
theorem one_cs (n : Nd) : ∀ u ∈ n.cs, u.oneCell' = true := by
 intro u hu
 simp only [Nd.cs, List.mem_cons, List.not_mem_nil, or_false] at hu
 rcases hu with rfl | rfl | rfl | rfl | rfl | rfl | rfl | rfl | rfl | rfl | rfl <;> rfl
structure ASt (w : World) (B gB mi mv : Nat) (v : Value) (mo : Nat) (ns : List Nd) (n : Nd) (g : Nat → Nat) (L : Nat → Bool) (x : World) : Prop where
 d7 : L 7 = true → L 4 = true ∧ L 6 = true
 d10 : L 10 = true → L 7 = true
 bx : x.heap[w.heap.size]? = some (.cells n.cs.toArray 43)
 sz : w.heap.size + 1 ≤ x.heap.size
 os : x.os = w.os
 tape : x.tape = w.tape
 output : x.output = w.output
 kp : ∀ k, k < w.heap.size → (L 7 = true → some k ≠ v.ownBlock) → (L 10 = true → k ≠ gB) → x.heap[k]? = w.heap[k]?
 s6 : L 6 = true → L 7 = false → x.heap[g 6]? = some (.cells n.cs.toArray 43)
 r7 : L 7 = true → x.ownsRow B 43 11 (sl (ns.length + 1) (g 7)) (ns.length + 1) ((ns ++ [n]).flatMap Nd.cs) ∧ ((sl (ns.length + 1) (g 7)).ownBlock = v.ownBlock ∨ ∃ b, (sl (ns.length + 1) (g 7)).ownBlock = some b ∧ w.heap.size + 1 ≤ b)
 h10 : L 10 = true → x.heap[gB]? = some (.cells #[.int .i64 (mo : Int), sl (ns.length + 1) (g 7), .map (some mi), .map (some mv)] 58)
section
variable {w : World} {B gB mi mv mo : Nat} {v : Value} {ns : List Nd} {n : Nd} {g : Nat → Nat} {L : Nat → Bool} {x y : World} {i : Nat}
theorem ASt.go (h : ASt w B gB mi mv v mo ns n g L x) (hi : (i != 6 && i != 7 && i != 10) = true) : ASt w B gB mi mv v mo ns n g (updB L i) x := by
 simp only [Bool.and_eq_true, bne_iff_ne, ne_eq] at hi
 have u6 := updB_ne (L := L) (i := i) (k := 6) (by omega)
 have u7 := updB_ne (L := L) (i := i) (k := 7) (by omega)
 have u10 := updB_ne (L := L) (i := i) (k := 10) (by omega)
 refine ⟨?_, by rw [u7, u10]; exact h.d10, h.bx, h.sz, h.os, h.tape, h.output, by rw [u7, u10]; exact h.kp, by rw [u6, u7]; exact h.s6, by rw [u7]; exact h.r7, by rw [u10]; exact h.h10⟩
 rw [u6, u7]
 intro e
 refine ⟨?_, (h.d7 e).2⟩
 by_cases h4 : i = 4
 ·subst h4; exact updB_eq
 ·rw [updB_ne (L := L) (i := i) (k := 4) (by omega)]; exact (h.d7 e).1
theorem ASt.no10 (h : ASt w B gB mi mv v mo ns n g L x) (h7 : L 7 = false) : L 10 = false := by
 cases e : L 10
 ·rfl
 ·rw [h.d10 e] at h7; cases h7
theorem ASt.built (h : ASt w B gB mi mv v mo ns n g L x) (h6 : L 6 = false) : ASt w B gB mi mv v mo ns n (updG g 6 x.heap.size) (updB L 6) (x.alloc (.cells n.cs.toArray 43)) := by
 have h7 : L 7 = false := by
  cases e : L 7
  ·rfl
  ·rw [(h.d7 e).2] at h6; cases h6
 have h10 := h.no10 h7
 have u4 := updB_ne (L := L) (i := 6) (k := 4) (by decide)
 have u7 := updB_ne (L := L) (i := 6) (k := 7) (by decide)
 have u10 := updB_ne (L := L) (i := 6) (k := 10) (by decide)
 have hs := h.sz
 refine ⟨?_, ?_, (heap_alloc_old _ _ (by omega)).trans h.bx, by simp; omega, h.os, h.tape, h.output, ?_, ?_, ?_, ?_⟩
 ·rw [u7, h7]; intro e; cases e
 ·rw [u10, h10]; intro e; cases e
 ·rw [u7, u10]; intro k hk a b; exact (heap_alloc_old _ _ (by omega)).trans (h.kp k hk a b)
 ·intro _ _; rw [updG_eq]; exact heap_alloc_new _ _
 ·rw [u7, h7]; intro e; cases e
 ·rw [u10, h10]; intro e; cases e
theorem ASt.app {p : Nat} (h : ASt w B gB mi mv v mo ns n g L x) (hL4 : L 4 = true) (hL6 : L 6 = true) (hL7 : L 7 = false) (hbv : ∀ k, v.ownBlock = some k → k < w.heap.size)
  (hg : x.grownBy y v.ownBlock) (ho : y.ownsRow B 43 11 (sl (ns.length + 1) p) (ns.length + 1) ((ns ++ [n]).flatMap Nd.cs)) (hat : (sl (ns.length + 1) p).ownBlock = v.ownBlock ∨ (sl (ns.length + 1) p).ownBlock = some x.heap.size) :
  ASt w B gB mi mv v mo ns n (updG g 7 p) (updB L 7) y := by
 have h10 := h.no10 hL7
 have u4 := updB_ne (L := L) (i := 7) (k := 4) (by decide)
 have u6 := updB_ne (L := L) (i := 7) (k := 6) (by decide)
 have u10 := updB_ne (L := L) (i := 7) (k := 10) (by decide)
 have hs := h.sz
 refine ⟨?_, ?_, ?_, by have := hg.size; omega, hg.os.trans h.os, hg.tape.trans h.tape, hg.output.trans h.output, ?_, ?_, ?_, ?_⟩
 ·intro _; rw [u4, u6]; exact ⟨hL4, hL6⟩
 ·rw [u10, h10]; intro e; cases e
 ·exact (hg.block _ (by omega) (fun e => by have := hbv _ e.symm; omega)).trans h.bx
 ·rw [u10]; intro k hk a b
  exact (hg.block k (by omega) (a updB_eq)).trans (h.kp k hk (fun e => by rw [hL7] at e; cases e) b)
 ·intro _ e; rw [updB_eq] at e; cases e
 ·intro _; rw [updG_eq]
  refine ⟨ho, ?_⟩
  rcases hat with e | e
  ·exact Or.inl e
  ·exact Or.inr ⟨_, e, hs⟩
 ·rw [u10, h10]; intro e; cases e
theorem row_far {x : World} {B b j : Nat} {u v : Value} {N : Nat} {xs : List Value} {t : TypeId} (h : x.ownsRow B t 11 v N xs) (hb : v.ownBlock ≠ some b) : (x.setCell ⟨b, j, none⟩ u).ownsRow B t 11 v N xs := by
 refine ⟨h.1, ?_⟩
 rcases h.2 with hn | ⟨g, cap, cur, rfl, h1, hgg, rest⟩
 ·exact .inl hn
 ·refine .inr ⟨g, cap, cur, rfl, h1, ?_, rest⟩
  rw [heap_setCell_other _ _ _ _ (fun e => hb (by rw [e]; rfl))]
  exact hgg
theorem ASt.store (h : ASt w B gB mi mv v mo ns n g L x) (hL7 : L 7 = true) (hL10 : L 10 = false) (hgB : gB < w.heap.size) (hne : v.ownBlock ≠ some gB) (hhd : w.heap[gB]? = some (.cells #[.int .i64 (mo : Int), v, .map (some mi), .map (some mv)] 58)) :
  ASt w B gB mi mv v mo ns n g (updB L 10) (x.setCell ⟨gB, 1, none⟩ (sl (ns.length + 1) (g 7))) := by
 have u4 := updB_ne (L := L) (i := 10) (k := 4) (by decide)
 have u6 := updB_ne (L := L) (i := 10) (k := 6) (by decide)
 have u7 := updB_ne (L := L) (i := 10) (k := 7) (by decide)
 have hx : x.heap[gB]? = w.heap[gB]? := h.kp gB hgB (fun _ e => hne e.symm) (fun e => by rw [hL10] at e; cases e)
 have hr := h.r7 hL7
 have hne2 : (sl (ns.length + 1) (g 7)).ownBlock ≠ some gB := by
  rcases hr.2 with e | ⟨b, e, hb⟩
  ·rw [e]; exact hne
  ·rw [e]; intro q; cases q; omega
 refine ⟨by rw [u7, u4, u6]; exact h.d7, fun _ => by rw [u7]; exact hL7, (heap_setCell_other _ _ _ _ (by show w.heap.size ≠ gB; omega)).trans h.bx, by rw [World.size_setCell]; exact h.sz, h.os, h.tape, h.output, ?_, ?_, ?_, ?_⟩
 ·rw [u7]; intro k hk a b
  have hk' := b updB_eq
  exact (heap_setCell_other _ _ _ _ (by show k ≠ gB; exact hk')).trans (h.kp k hk a (fun e => by rw [hL10] at e; cases e))
 ·rw [u7, hL7]; intro _ e; cases e
 ·intro _; exact ⟨row_far hr.1 hne2, hr.2⟩
 ·intro _
  rw [heap_setCell_same _ _ _ _ _ _ (hx.trans hhd)]; rfl
end
structure Chg (w w' : World) (gB mi mv : Nat) (v : Value) : Prop where
 os : w'.os = w.os
 tape : w'.tape = w.tape
 output : w'.output = w.output
 size : w.heap.size ≤ w'.heap.size
 block : ∀ k, k < w.heap.size → k ≠ gB → k ≠ mi → k ≠ mv → some k ≠ v.ownBlock → w'.heap[k]? = w.heap[k]?
theorem Gr.sep {w : World} {B g mi mv mo : Nat} {v : Value} {ns : List Nd} (h : Gr w B g mi mv v mo ns) : mi ≠ g ∧ mv ≠ g ∧ v.ownBlock ≠ some mi ∧ v.ownBlock ≠ some mv ∧ v.ownBlock ≠ some g := by
 obtain ⟨es, cl, hi, -⟩ := h.ids
 obtain ⟨es', cl', hv, -⟩ := h.vars
 refine ⟨fun e => ?_, fun e => ?_, fun e => ?_, fun e => ?_, fun e => ?_⟩
 ·subst e; rw [h.hd] at hi; cases hi
 ·subst e; rw [h.hd] at hv; cases hv
 ·rcases h.row.2 with ⟨rfl, _⟩ | ⟨r, cap, cur, rfl, _, hr, _⟩
  ·cases e
  ·cases e; rw [hi] at hr; cases hr
 ·rcases h.row.2 with ⟨rfl, _⟩ | ⟨r, cap, cur, rfl, _, hr, _⟩
  ·cases e
  ·cases e; rw [hv] at hr; cases hr
 ·rcases h.row.2 with ⟨rfl, _⟩ | ⟨r, cap, cur, rfl, _, hr, _⟩
  ·cases e
  ·cases e; rw [h.hd] at hr; cases hr
theorem add_end {w x X : World} {B gB mi mv mo : Nat} {v : Value} {ns : List Nd} {n : Nd} {g : Nat → Nat} (hG : Gr w B gB mi mv v mo ns) (hS : ASt w B gB mi mv v mo ns n g (fun k => decide (k < 11)) x) (hin : Inv (ns ++ [n])) (hroom : ns.length < mo)
  (ho : X.os = x.os) (ht : X.tape = x.tape) (hp : X.output = x.output) (hs : x.heap.size ≤ X.heap.size) (hk : ∀ k, k < x.heap.size → k ≠ mi → k ≠ mv → X.heap[k]? = x.heap[k]?)
  (hm : Mp X 43 mi (idL (ns ++ [n]))) (hv : Mp X 9 mv (varL (ns ++ [n]))) :
  ∃ v', Gr X B gB mi mv v' mo (ns ++ [n]) ∧ Chg w X gB mi mv v ∧ (v'.ownBlock = v.ownBlock ∨ ∃ b, v'.ownBlock = some b ∧ w.heap.size ≤ b) := by
 obtain ⟨s1, s2, s3, s4, s5⟩ := hG.sep
 have hz := hS.sz
 have hr := hS.r7 rfl
 have hg := hG.lt
 have hil := hG.ids.lt
 have hvl := hG.vars.lt
 have hb : ∀ q, (sl (ns.length + 1) (g 7)).ownBlock = some q → q ≠ mi ∧ q ≠ mv := by
  intro q e
  rcases hr.2 with e' | ⟨b, e', hb⟩
  ·rw [e'] at e; exact ⟨fun q' => s3 (by rw [e, q']), fun q' => s4 (by rw [e, q'])⟩
  ·rw [e'] at e; cases e; exact ⟨by omega, by omega⟩
 refine ⟨sl (ns.length + 1) (g 7), ⟨(hk gB (by omega) s1.symm s2.symm).trans (hS.h10 rfl), ?_, hm, hv, hG.bg, hG.bi, hG.bv, hG.ne, hG.most, by simp; omega, hin⟩, ⟨ho.trans hS.os, ht.trans hS.tape, hp.trans hS.output, by omega, ?_⟩, ?_⟩
 ·have hrow := hr.1
  refine ⟨by rw [List.length_append, List.length_singleton]; exact hrow.1, ?_⟩
  rcases hrow.2 with ⟨e, h0⟩ | ⟨r, cap, cur, e, h1, hgg, rest⟩
  ·omega
  ·rw [List.length_append, List.length_singleton]
   have hq := hb r (by rw [e]; rfl)
   exact .inr ⟨r, cap, cur, e, h1, (hk r (Array.getElem?_eq_some_iff.1 hgg).1 hq.1 hq.2).trans hgg, rest⟩
 ·intro k h1 h2 h3 h4 h5
  exact (hk k (by omega) h3 h4).trans (hS.kp k h1 (fun _ => h5) (fun _ => h2))
 ·rcases hr.2 with e | ⟨b, e, hb⟩
  ·exact Or.inl e
  ·exact Or.inr ⟨b, e, by omega⟩
theorem new_key {ns : List Nd} {n : Nd} (hin : Inv (ns ++ [n])) : ∀ p ∈ idL ns, p.1 ≠ n.val := by
 intro p hp e
 obtain ⟨j, m, hj, rfl⟩ := mem_idL hp
 have := Nd.val_inj e
 subst this
 have := List.nodup_append.1 hin.once
 exact this.2.2 m (List.mem_of_getElem? hj) m (by simp) rfl
theorem new_name {ns : List Nd} {n : Nd} (hin : Inv (ns ++ [n])) (h2 : n.op = 2) : ∀ p ∈ varL ns, p.1 ≠ .string n.nm := by
 intro p hp e
 obtain ⟨j, m, hj, hm2, rfl⟩ := mem_varL hp
 have hmem := List.mem_of_getElem? hj
 have := hin.names m (by simp [hmem]) n (by simp) hm2 h2 (by simpa using e)
 subst this
 have := List.nodup_append.1 hin.once
 exact this.2.2 m hmem m (by simp) rfl
theorem gadd_any {w : World} {B g0 mi mv mo : Nat} {v : Value} {ns : List Nd} (h : Gr w B g0 mi mv v mo ns) {n : Nd} (hroom : ns.length < mo) (hin : Inv (ns ++ [n])) {kl : Lit} (hkey : keyOf Try.prog 43 n.val = some kl) (hnm : n.nm.size ≤ maxLen) (hBw : B ≤ w.heap.size) :
  Calls Try.prog 25 #[.pointer (some ⟨g0, 0, none⟩), .agg #[.int .i64 n.op, .int .i64 n.s, .int .i64 n.a, .int .i64 n.b, .int .i64 n.c, .int .i64 n.p, .int .i64 n.q, .int .i64 n.w, .int .u64 n.lo, .int .u64 n.hi, .string n.nm]] w fun e w' => e = .returned (.int .i64 ((ns.length : Int) + 1)) ∧ ∃ v', Gr w' B g0 mi mv v' mo (ns ++ [n]) ∧ Chg w w' g0 mi mv v ∧ (v'.ownBlock = v.ownBlock ∨ ∃ b, v'.ownBlock = some b ∧ w.heap.size ≤ b) := by
 have HG : Hid _ := h
 have hg := h.lt
 have hlen := h.len
 have hmost := h.most
 have HBV : Hid (∀ k, v.ownBlock = some k → k < w.heap.size) := fun k hk => (h.row.lt k hk).2
 have HNE : Hid (v.ownBlock ≠ some g0) := by
  intro e
  rcases h.row.2 with ⟨rfl, _⟩ | ⟨r, cap, cur, rfl, _, hr, _⟩
  ·cases e
  ·cases e
   rw [h.hd] at hr
   cases hr
 have HW : Hid (w.ownsRow B 43 11 v ns.length (ns.flatMap Nd.cs)) := h.row
 have HHD : Hid _ := h.hd
 obtain ⟨t0, ht0, hz0, hz1, hz2⟩ := info_parts info36
 have HI0 : Hid _ := (⟨ht0, hz0, hz1, hz2⟩ : Try.prog.info? 43 = some t0 ∧ t0.zero = _ ∧ t0.size = 11 ∧ t0.bytes = 96)
 have HIN : Hid _ := hin
 have HKE : Hid _ := hkey
 clear h ht0 hz0 hz1 hz2 hin hkey
 go_enter Try.func25, Try.ntmps25
 go_wp2_with fail
 refine wp_named fun a0 ha0 => ?_
 have o0 := old_at ha0 (t := 0) rfl
 have o3 := old_at ha0 (t := 3) rfl
 refine wp_region_lin (S := ASt w B g0 mi mv v mo ns n) [6, 7] (fun _ => 0) (by kernel_rfl) (by kernel_rfl) (by rw [← ha0]; kernel_rfl) ?_ ?_
 ·exact ⟨(fun e => by cases e), (fun e => by cases e), heap_alloc_new w _, by show w.heap.size + 1 ≤ (w.alloc _).heap.size; simp, rfl, rfl, rfl, (fun k hk _ _ => heap_alloc_old w _ hk), (fun e => by cases e), (fun e => by cases e), (fun e => by cases e)⟩
 refine' LinAll.cons _ ?_ ?_ ?_
 rotate_left 1
 ·intro g L a x hLi haft hS hK; have t0 := (hK.old 0 (by kernel_rfl)).trans o0; refine go_in (wanted_all rfl) ?_; intro K hk; clear haft hK hLi; go_simp; exact hk.out g x (fun _ _ => rfl) (hS.go rfl)
 ·intro i hi; exact Or.inl (fun _ _ _ => rfl)
 refine' LinAll.cons _ ?_ ?_ ?_
 rotate_left 1
 ·intro g L a x hLi haft hS hK; have t0 := (hK.old 0 (by kernel_rfl)).trans o0; refine go_in (wanted_all rfl) ?_; intro K hk; clear haft hK hLi; go_simp; exact hk.out g x (fun _ _ => rfl) (hS.go rfl)
 ·intro i hi; exact Or.inl (fun _ _ _ => rfl)
 refine' LinAll.cons _ ?_ ?_ ?_
 rotate_left 1
 ·intro g L a x hLi haft hS hK; have t7 := hK.nw haft 1 0 7 rfl (by kernel_rfl); (try dsimp only at t7); refine go_in (wanted_all rfl) ?_; intro K hk; clear haft hK hLi; go_simp; exact hk.out g x (fun _ _ => rfl) (hS.go rfl)
 ·intro i hi; exact Or.inl (fun _ _ _ => rfl)
 refine' LinAll.cons _ ?_ ?_ ?_
 rotate_left 1
 ·intro g L a x hLi haft hS hK; have t8 := hK.nw haft 2 0 8 rfl (by kernel_rfl); (try dsimp only at t8); refine go_in (wanted_all rfl) ?_; intro K hk; clear haft hK hLi; go_simp; exact hk.out g x (fun _ _ => rfl) (hS.go rfl)
 ·intro i hi; exact Or.inl (fun _ _ _ => rfl)
 refine' LinAll.cons _ ?_ ?_ ?_
 rotate_left 1
 ·intro g L a x hLi haft hS hK; have t9 := hK.nw haft 3 0 9 rfl (by kernel_rfl); (try dsimp only at t9)
  have h7 : L 7 = false := by
   cases e : L 7
   ·rfl
   ·rw [(hS.d7 e).1] at hLi; cases hLi
  have h10 := hS.no10 h7
  have c1 : x.cell? ⟨g0, 1, none⟩ = some v := cell_of ((hS.kp g0 hg (fun e => by rw [h7] at e; cases e) (fun e => by rw [h10] at e; cases e)).trans HHD.out) 1 rfl
  clear h7 h10
  refine go_in (wanted_all rfl) ?_; intro K hk; clear haft hK hLi; go_simp; exact hk.out g x (fun _ _ => rfl) (hS.go rfl)
 ·intro i hi; exact Or.inl (fun _ _ _ => rfl)
 refine' LinAll.cons _ ?_ ?_ ?_
 rotate_left 1
 ·intro g L a x hLi haft hS hK; have t3 := (hK.old 3 (by kernel_rfl)).trans o3; have c0 : x.cell? ⟨w.heap.size, 0, none⟩ = some (.int .i64 n.op) := cell_of hS.bx 0 rfl; have c1 : x.cell? ⟨w.heap.size, 1, none⟩ = some (.int .i64 n.s) := cell_of hS.bx 1 rfl; have c2 : x.cell? ⟨w.heap.size, 2, none⟩ = some (.int .i64 n.a) := cell_of hS.bx 2 rfl; have c3 : x.cell? ⟨w.heap.size, 3, none⟩ = some (.int .i64 n.b) := cell_of hS.bx 3 rfl; have c4 : x.cell? ⟨w.heap.size, 4, none⟩ = some (.int .i64 n.c) := cell_of hS.bx 4 rfl; have c5 : x.cell? ⟨w.heap.size, 5, none⟩ = some (.int .i64 n.p) := cell_of hS.bx 5 rfl; have c6 : x.cell? ⟨w.heap.size, 6, none⟩ = some (.int .i64 n.q) := cell_of hS.bx 6 rfl; have c7 : x.cell? ⟨w.heap.size, 7, none⟩ = some (.int .i64 n.w) := cell_of hS.bx 7 rfl; have c8 : x.cell? ⟨w.heap.size, 8, none⟩ = some (.int .u64 n.lo) := cell_of hS.bx 8 rfl; have c9 : x.cell? ⟨w.heap.size, 9, none⟩ = some (.int .u64 n.hi) := cell_of hS.bx 9 rfl; have c10 : x.cell? ⟨w.heap.size, 10, none⟩ = some (.string n.nm) := cell_of hS.bx 10 rfl; refine go_in (wanted_all rfl) ?_; intro K hk; clear haft hK hLi; go_simp; exact hk.out g x (fun _ _ => rfl) (hS.go rfl)
 ·intro i hi; exact Or.inl (fun _ _ _ => rfl)
 refine LinAll.cons (fun g => .slice (some ⟨g 6, 0, none⟩) 1 1) ?_ ?_ ?_
 ·intro g L a x hLi haft hS hK; have t11 := hK.nw haft 5 0 11 rfl (by kernel_rfl); (try dsimp only at t11); refine go_in (wanted_all rfl) ?_; intro K hk; clear haft hK; go_simp
  have hq := hk.out (updG g 6 x.heap.size) _ (updG_al (by rfl)) (hS.built hLi)
  dsimp only at hq; rw [updG_eq] at hq; exact hq
 ·intro i hi; simp only [List.mem_cons, List.not_mem_nil, or_false] at hi; rcases hi with rfl | rfl; exact Or.inr (by kernel_rfl); exact Or.inl (fun g g' h => by simp only [h 6 (by decide)])
 refine LinAll.cons (fun g => sl (ns.length + 1) (g 7)) ?_ ?_ ?_
 ·intro g L a x hLi haft hS hK
  have hL4 := waits haft 4 (by kernel_rfl)
  have hL6 := waits haft 6 (by kernel_rfl)
  have t10 := hK.new 4 2 _ 10 _ rfl rfl rfl (by kernel_rfl) hL4
  have t12 := hK.new 6 0 _ 12 _ rfl rfl rfl (by kernel_rfl) hL6
  (try dsimp only at t10 t12)
  have h10 := hS.no10 hLi
  have hrow : x.ownsRow B 43 11 v ns.length (ns.flatMap Nd.cs) := row_kept HW.out (fun k hk => hS.kp k hk (fun e => by rw [hLi] at e; cases e) (fun e => by rw [h10] at e; cases e))
  have hb6 := hS.s6 hL6 hLi
  refine go_in (wanted_all rfl) ?_
  intro K hk
  refine wp_append_at _ (.tmp 10) (.tmp 12) 37 rfl B 43 t0 _ 11 96 under22 HI0.out.1 HI0.out.2.1 HI0.out.2.2.1 HI0.out.2.2.2 rfl (by decide) v ns.length _ (eval_tmp t10) hrow ⟨g 6, 0, none⟩ 1 1 n.cs (eval_tmp t12) rfl (fun j u hj => by
   have e : (⟨g 6, 0, none⟩ : Addr).add j = ⟨g 6, j, none⟩ := by simp [Addr.add]; try (intro hq; exact hq.symm)
   rw [e]; exact cell_of hb6 j (by simpa using hj)) (one_cs n) (by unfold maxLen; omega) (by omega) (by have := hS.sz; omega) ?_
  intro v' y hown hgrow hat
  obtain ⟨p, rfl⟩ := sl_own hown (by omega)
  have hown' : y.ownsRow B 43 11 (sl (ns.length + 1) p) (ns.length + 1) ((ns ++ [n]).flatMap Nd.cs) := by rw [List.flatMap_append]; simpa using hown
  have hq := hk.out (updG g 7 p) y (updG_al (by rfl)) (hS.app hL4 hL6 hLi HBV.out hgrow hown' hat)
  dsimp only at hq; rw [updG_eq] at hq; exact hq
 ·intro i hi; simp only [List.mem_cons, List.not_mem_nil, or_false] at hi; rcases hi with rfl | rfl; exact Or.inl (fun g g' h => by simp only [h 7 (by decide)]); exact Or.inr (by kernel_rfl)
 refine' LinAll.cons _ ?_ ?_ ?_
 rotate_left 1
 ·intro g L a x hLi haft hS hK; have t6 := hK.nw haft 0 7 6 rfl (by kernel_rfl); (try dsimp only at t6); refine go_in (wanted_all rfl) ?_; intro K hk; clear haft hK hLi; go_simp; exact hk.out g x (fun _ _ => rfl) (hS.go rfl)
 ·intro i hi; exact Or.inl (fun _ _ _ => rfl)
 refine' LinAll.cons _ ?_ ?_ ?_
 rotate_left 1
 ·intro g L a x hLi haft hS hK; have t14 := hK.nw haft 8 0 14 rfl (by kernel_rfl); (try dsimp only at t14); refine go_in (wanted_all rfl) ?_; intro K hk; clear haft hK hLi; go_simp; exact hk.out g x (fun _ _ => rfl) (hS.go rfl)
 ·intro i hi; exact Or.inl (fun _ _ _ => rfl)
 refine LinAll.cons (fun _ => undef) ?_ ?_ ?_
 ·intro g L a x hLi haft hS hK
  have hL7 := waits haft 7 (by kernel_rfl)
  have t13 := hK.new 7 2 _ 13 _ rfl rfl rfl (by kernel_rfl) hL7
  have t15 := hK.nw haft 9 0 15 rfl (by kernel_rfl)
  (try dsimp only at t13 t15)
  have hh := (hS.kp g0 hg (fun _ e => HNE.out e.symm) (fun e => by rw [hLi] at e; cases e)).trans HHD.out
  have c1 : x.cell? ⟨g0, 1, none⟩ = some v := cell_of hh 1 rfl
  have f1 : x.frozen? ⟨g0, 1, none⟩ = false := by simp [World.frozen?, hh]
  have hnew := hS.store hL7 hLi hg HNE.out HHD.out
  unfold sl at t13
  refine go_in (wanted_all rfl) ?_
  intro K hk
  clear haft hK hLi hh
  go_simp
  exact hk.out g _ (fun _ _ => rfl) hnew
 ·intro i hi; exact Or.inl (fun _ _ _ => rfl)
 refine LinAll.nil fun g x hS => ?_
 subst ha0
 simp only [Act.put, List.setIfInBounds_toArray, List.set_cons_zero, List.set_cons_succ]
 clear o0 o3
 have HS : Hid _ := hS
 have c1 : x.cell? ⟨g0, 1, none⟩ = some (sl (ns.length + 1) (g 7)) := cell_of (hS.h10 rfl) 1 rfl
 have c2 : x.cell? ⟨g0, 2, none⟩ = some (.map (some mi)) := cell_of (hS.h10 rfl) 2 rfl
 have c3 : x.cell? ⟨g0, 3, none⟩ = some (.map (some mv)) := cell_of (hS.h10 rfl) 3 rfl
 have b0 : x.cell? ⟨w.heap.size, 0, none⟩ = some (.int .i64 n.op) := cell_of hS.bx 0 rfl
 have b1 : x.cell? ⟨w.heap.size, 1, none⟩ = some (.int .i64 n.s) := cell_of hS.bx 1 rfl
 have b2 : x.cell? ⟨w.heap.size, 2, none⟩ = some (.int .i64 n.a) := cell_of hS.bx 2 rfl
 have b3 : x.cell? ⟨w.heap.size, 3, none⟩ = some (.int .i64 n.b) := cell_of hS.bx 3 rfl
 have b4 : x.cell? ⟨w.heap.size, 4, none⟩ = some (.int .i64 n.c) := cell_of hS.bx 4 rfl
 have b5 : x.cell? ⟨w.heap.size, 5, none⟩ = some (.int .i64 n.p) := cell_of hS.bx 5 rfl
 have b6 : x.cell? ⟨w.heap.size, 6, none⟩ = some (.int .i64 n.q) := cell_of hS.bx 6 rfl
 have b7 : x.cell? ⟨w.heap.size, 7, none⟩ = some (.int .i64 n.w) := cell_of hS.bx 7 rfl
 have b8 : x.cell? ⟨w.heap.size, 8, none⟩ = some (.int .u64 n.lo) := cell_of hS.bx 8 rfl
 have b9 : x.cell? ⟨w.heap.size, 9, none⟩ = some (.int .u64 n.hi) := cell_of hS.bx 9 rfl
 have b10 : x.cell? ⟨w.heap.size, 10, none⟩ = some (.string n.nm) := cell_of hS.bx 10 rfl
 clear hS
 unfold sl at c1
 go_wp2_with fail
 obtain ⟨s1, s2, s3, s4, s5⟩ := HG.out.sep
 have hz := HS.out.sz
 have hil := HG.out.ids.lt
 have hvl := HG.out.vars.lt
 have hxi : x.heap[mi]? = w.heap[mi]? := HS.out.kp mi hil (fun _ e => s3 e.symm) (fun _ => s1)
 have hxv : x.heap[mv]? = w.heap[mv]? := HS.out.kp mv hvl (fun _ e => s4 e.symm) (fun _ => s2)
 obtain ⟨X2, hmu', hM2, hgr2, hsz2⟩ := Mp.store (w := x.drew) (val := .int .i64 ((ns.length : Int) + 1)) (HG.out.ids.kept (w' := x.drew) hxi) nodeLaw idsUnder HKE.out (new_key HIN.out)
 have hmu : (Instr.mapUpdate 55 (.map (some mi)) (.agg #[.int .i64 n.op, .int .i64 n.s, .int .i64 n.a, .int .i64 n.b, .int .i64 n.c, .int .i64 n.p, .int .i64 n.q, .int .i64 n.w, .int .u64 n.lo, .int .u64 n.hi, .string n.nm]) (.int .i64 ((ns.length : Int) + 1))).run Try.prog x.drew = .ok () X2 := hmu'
 have f3 : X2.cell? ⟨g0, 3, none⟩ = some (.map (some mv)) := hgr2.cell (a := ⟨g0, 3, none⟩) c3 (fun e => s1 (by cases e; rfl))
 have f0 : X2.cell? ⟨w.heap.size, 0, none⟩ = some (.int .i64 n.op) := hgr2.cell (a := ⟨w.heap.size, 0, none⟩) b0 (fun e => by have e' : w.heap.size = mi := Option.some.inj e; omega)
 have f10 : X2.cell? ⟨w.heap.size, 10, none⟩ = some (.string n.nm) := hgr2.cell (a := ⟨w.heap.size, 10, none⟩) b10 (fun e => by have e' : w.heap.size = mi := Option.some.inj e; omega)
 have HM2 : Hid (Mp X2 43 mi (idL (ns ++ [n]))) := by unfold Hid; rw [idL_snoc]; exact hM2
 have HG2 : Hid _ := hgr2
 have hv2 : X2.heap[mv]? = w.heap[mv]? := (hgr2.block mv (by show mv < x.heap.size; omega) (fun e => HG.out.ne (by cases e; rfl))).trans hxv
 clear hmu' hM2 hgr2
 by_cases h2 : n.op = 2
 ·obtain ⟨X3, hmv', hM3, hgr3, hsz3⟩ := Mp.store (w := X2.drew) (val := .int .i64 ((ns.length : Int) + 1)) (HG.out.vars.kept (w' := X2.drew) hv2) strLaw varsUnder (strKey hnm) (new_name HIN.out h2)
  have HM3 : Hid (Mp X3 9 mv (varL (ns ++ [n]))) := by unfold Hid; rw [varL_snoc, if_pos h2]; exact hM3
  have HG3 : Hid _ := hgr3
  have hmv : (Instr.mapUpdate 56 (.map (some mv)) (.string n.nm) (.int .i64 ((ns.length : Int) + 1))).run Try.prog X2.drew = .ok () X3 := hmv'
  have z2 : (n.op == 2) = true := by simp [h2]
  clear hmv' hM3 hgr3 h2
  go_region
  all_goals
   go_wp2_with fail
   go_region
  all_goals
   go_wp2_with fail
   go_ret
   refine ⟨rfl, add_end HG.out HS.out HIN.out hroom (HG3.out.os.trans HG2.out.os) (HG3.out.tape.trans HG2.out.tape) (HG3.out.output.trans HG2.out.output) (Nat.le_trans (Nat.le_of_eq hsz2.symm) (Nat.le_of_eq hsz3.symm)) (fun k h1 h3 h4 => ?_) (HM2.out.kept (HG3.out.block mi (by show mi < X2.heap.size; rw [hsz2]; show mi < x.heap.size; omega) (fun e => HG.out.ne (by cases e; rfl)))) HM3.out⟩
   exact (HG3.out.block k (by show k < X2.heap.size; rw [hsz2]; exact h1) (fun e => h4 (by cases e; rfl))).trans (HG2.out.block k h1 (fun e => h3 (by cases e; rfl)))
 ·have HM3 : Hid (Mp X2 9 mv (varL (ns ++ [n]))) := by unfold Hid; rw [varL_snoc, if_neg h2, List.append_nil]; exact HG.out.vars.kept hv2
  have z2 : (n.op == 2) = false := by simp [h2]
  clear h2
  go_region
  all_goals
   go_wp2_with fail
   go_ret
   exact ⟨rfl, add_end HG.out HS.out HIN.out hroom HG2.out.os HG2.out.tape HG2.out.output (Nat.le_of_eq hsz2.symm) (fun k h1 h3 h4 => HG2.out.block k h1 (fun e => h3 (by cases e; rfl))) HM2.out HM3.out⟩
end Go.Proofs.Ytedldoobmmhloaa
