import Derived.Test.YtcahhahbcijkiaaGreatBM2
import Derived.Test.YtcahhahbcijkiaaGreatMg48
namespace Go.Proofs.YtcahhahbcijkiaaGreat
set_option maxHeartbeats 12800000
set_option maxRecDepth 100000
open Go.RowKit
set_option linter.unusedSimpArgs false
set_option linter.unusedVariables false
open Ag (updB updG updB_ne updB_eq updG_eq updG_ne)
structure CT (x0 : World) (F : Nat → Prop) (gs g mo : Nat) (D : Nat → Prop) (A B C : List Int) (p : List Int × Ag.Gz) (G : Nat → Nat) (L : Nat → Bool) (x : World) : Prop where
 s0 : L 23 = false → Sa x0 x
 k1 : L 8 = true → Ag.Wd x0 D (encW A.length (G 8)) A
 k2 : L 15 = true → Ag.Wd x0 D (encW B.length (G 15)) B
 k3 : L 22 = true → Ag.Wd x0 D (encW C.length (G 22)) C
 s1 : L 23 = true → ∃ y F', Sa x0 y ∧ Ag.Wd x (Ag.FG F' gs) (encW p.1.length (G 23)) p.1 ∧ Ag.Gn x F' gs g mo p.2 ∧ Ag.Ch y x (Ag.FG F gs) (Ag.FG F' gs)
section
variable {x0 : World} {F : Nat → Prop} {gs g mo : Nat} {D : Nat → Prop} {A B C : List Int} {p : List Int × Ag.Gz} {G : Nat → Nat} {L : Nat → Bool} {x y : World} {i q : Nat}
theorem CT.start (hx : Sa x0 x) : CT x0 F gs g mo D A B C p G (fun _ => false) x := ⟨(fun _ => hx), (fun e => by cases e), (fun e => by cases e), (fun e => by cases e), (fun e => by cases e)⟩
theorem CT.go (h : CT x0 F gs g mo D A B C p G L x) (hi : (i != 8 && i != 15 && i != 22 && i != 23) = true) : CT x0 F gs g mo D A B C p G (updB L i) x := by
 simp only [Bool.and_eq_true, bne_iff_ne, ne_eq] at hi
 refine ⟨by rw [updB_ne (by omega)]; exact h.s0, by rw [updB_ne (by omega)]; exact h.k1, by rw [updB_ne (by omega)]; exact h.k2, by rw [updB_ne (by omega)]; exact h.k3, by rw [updB_ne (by omega)]; exact h.s1⟩
theorem CT.l1 (h : CT x0 F gs g mo D A B C p G L x) (hu : Ag.Wd x0 D (encW A.length q) A) : CT x0 F gs g mo D A B C p (updG G 8 q) (updB L 8) x :=
 ⟨by rw [updB_ne (by omega)]; exact h.s0, fun _ => by rw [updG_eq]; exact hu, by rw [updB_ne (by omega), updG_ne _ (by omega)]; exact h.k2, by rw [updB_ne (by omega), updG_ne _ (by omega)]; exact h.k3, by rw [updB_ne (by omega), updG_ne _ (by omega)]; exact h.s1⟩
theorem CT.l2 (h : CT x0 F gs g mo D A B C p G L x) (hu : Ag.Wd x0 D (encW B.length q) B) : CT x0 F gs g mo D A B C p (updG G 15 q) (updB L 15) x :=
 ⟨by rw [updB_ne (by omega)]; exact h.s0, by rw [updB_ne (by omega), updG_ne _ (by omega)]; exact h.k1, fun _ => by rw [updG_eq]; exact hu, by rw [updB_ne (by omega), updG_ne _ (by omega)]; exact h.k3, by rw [updB_ne (by omega), updG_ne _ (by omega)]; exact h.s1⟩
theorem CT.l3 (h : CT x0 F gs g mo D A B C p G L x) (hu : Ag.Wd x0 D (encW C.length q) C) : CT x0 F gs g mo D A B C p (updG G 22 q) (updB L 22) x :=
 ⟨by rw [updB_ne (by omega)]; exact h.s0, by rw [updB_ne (by omega), updG_ne _ (by omega)]; exact h.k1, by rw [updB_ne (by omega), updG_ne _ (by omega)]; exact h.k2, fun _ => by rw [updG_eq]; exact hu, by rw [updB_ne (by omega), updG_ne _ (by omega)]; exact h.s1⟩
theorem CT.called {F' : Nat → Prop} (h : CT x0 F gs g mo D A B C p G L x) (h23 : L 23 = false) (hw : Ag.Wd y (Ag.FG F' gs) (encW p.1.length q) p.1) (hg : Ag.Gn y F' gs g mo p.2) (hc : Ag.Ch x y (Ag.FG F gs) (Ag.FG F' gs)) : CT x0 F gs g mo D A B C p (updG G 23 q) (updB L 23) y :=
 ⟨(by rw [updB_eq]; intro e; cases e), by rw [updB_ne (by omega), updG_ne _ (by omega)]; exact h.k1, by rw [updB_ne (by omega), updG_ne _ (by omega)]; exact h.k2, by rw [updB_ne (by omega), updG_ne _ (by omega)]; exact h.k3, fun _ => by rw [updG_eq]; exact ⟨x, F', h.s0 h23, hw, hg, hc⟩⟩
end
theorem Sa.cell {x0 x : World} (h : Sa x0 x) {a : Addr} {v : Value} (hc : x0.cell? a = some v) : x.cell? a = some v := by
 unfold World.cell? at hc ⊢
 rw [h.heap]; exact hc
theorem Sa.below {x0 x : World} (h : Sa x0 x) : Below x0.heap.size x0 x := ⟨h.os, h.tape, h.output, by rw [h.heap]; exact Nat.le_refl _, fun q _ => by rw [h.heap]⟩
theorem Sa.back {x0 x : World} (h : Sa x0 x) : Below x.heap.size x x0 := ⟨h.os.symm, h.tape.symm, h.output.symm, by rw [h.heap]; exact Nat.le_refl _, fun q _ => by rw [h.heap]⟩
theorem wd_narrow {w : World} {D D' : Nat → Prop} {u : Value} {L : List Int} (h : Ag.Wd w D u L) (hd : ∀ k, D' k → D k) : Ag.Wd w D' u L := by
 obtain ⟨a, c, e, h1, h2, h3, h4⟩ := h.ex
 refine ⟨a, c, e, h1, h2, h3, ?_⟩
 rcases h4 with h4 | ⟨r, o, q1, q2, q3, q4⟩
 ·exact Or.inl h4
 ·exact Or.inr ⟨r, o, q1, q2, fun e => q3 (hd r e), q4⟩
theorem lcK_step {ns : List Nd} {mo : Nat} {z : Zb} {C : List Int} {k : Nat} {id : Int} (h : C[k]? = some id) : lcK ns mo z (C.drop k) = if (lcS ns mo z id).2 ≠ 0 then lcS ns mo z id else lcK ns mo (lcS ns mo z id).1 (C.drop (k + 1)) := by
 have hk := (List.getElem?_eq_some_iff.1 h).1
 rw [List.drop_eq_getElem_cons hk]
 rw [List.getElem?_eq_getElem hk] at h
 injection h with h
 rw [h, lcK]
theorem cone_idx {L : List Int} (hL : L.Pairwise (· < ·)) {j : Nat} {p q : Int} (hj : L[j]? = some p) (hq : q ∈ L) (h : q < p) : q ∈ L.take j := by
 obtain ⟨i, hi, rfl⟩ := List.getElem_of_mem hq
 obtain ⟨hjl, hje⟩ := List.getElem?_eq_some_iff.1 hj
 have hij : i < j := by
  apply Classical.byContradiction
  intro hn
  by_cases e : i = j
  ·subst e; omega
  ·have := List.pairwise_iff_getElem.1 hL j i hjl hi (by omega)
   omega
 exact List.mem_of_getElem? (i := i) (by rw [List.getElem?_take_of_lt hij]; exact List.getElem?_eq_getElem hi)
structure LC (ns : List Nd) (mo : Nat) (w0 : W0) (w : World) (F : Nat → Prop) (gs bl g tg mk : Nat) (nv : Value) (z : Zb) (C : List Int) (R : Zb × Int) (k : Nat) (wr : World) : Prop where
 ex : ∃ F1 z1, R = lcK ns mo z1 (C.drop k) ∧ Bh ns w0 wr (Ag.FG F1 gs) bl g tg mk nv z1.f z1.ids ∧ Ag.Gn wr F1 gs g mo ⟨z1.ks, 0⟩ ∧ Ag.Ch w wr (DB F bl mk nv) (DB (Ag.FG F1 gs) bl mk nv) ∧ Zok ns mo z1 ∧ (∀ x ∈ C.take k, (z1.f x).isSome = true) ∧ (∀ i L, z.f i = some L → z1.f i = some L) ∧ z1.ids = z.ids ∧ z.ks.length ≤ z1.ks.length
def LCE (ns : List Nd) (mo : Nat) (w0 : W0) (w : World) (F : Nat → Prop) (bl g tg mk : Nat) (nv : Value) (z : Zb) (C : List Int) (R : Zb × Int) (ev : Ending) (w' : World) : Prop :=
 ev = .returned (.int .i64 R.2) ∧ ∃ F1, Bh ns w0 w' F1 bl g tg mk nv R.1.f R.1.ids ∧ Ag.Gr w' F1 g mo R.1.ks ∧ Ag.Ch w w' (DB F bl mk nv) (DB F1 bl mk nv) ∧ Zok ns mo R.1 ∧ (R.2 = 0 → ∀ x ∈ C, (R.1.f x).isSome = true) ∧ (R.2 ≠ 0 → R.2 = 81 ∧ R.1.ks.length = mo + 1) ∧ (∀ i L, z.f i = some L → R.1.f i = some L) ∧ R.1.ids = z.ids ∧ z.ks.length ≤ R.1.ks.length
theorem lay_circuits {ns : List Nd} {w0 : W0} {w : World} {F : Nat → Prop} {bl gA tg mk mo mi mv B mt : Nat} {v nv u : Value} {z : Zb} {C : List Int} (hT : Gt w0 B tg mi mv v mt ns) (hK : Nk ns) (hB : Bh ns w0 w F bl gA tg mk nv z.f z.ids) (hG : Ag.Gr w F gA mo z.ks) (hZ : Zok ns mo z) (hC : Ag.Wd w (DB F bl mk nv) u C) (hin : ∀ x ∈ C, 1 ≤ x ∧ x ≤ (ns.length : Int)) (hCl : C.length ≤ 5000) (hri : C.Pairwise (· < ·)) (hsh : ∀ x ∈ C, ∀ a, (a = (nAt ns x).a ∨ a = (nAt ns x).b ∨ a = (nAt ns x).c) → 1 ≤ a → a ∈ C) (hva : ∀ x ∈ C, (nAt ns x).op = 2 → (z.f x).isSome = true) :
  Calls Tryz.prog 29 #[.pointer (some ⟨bl, 0, none⟩), u] w (LCE ns mo w0 w F bl gA tg mk nv z C (lcK ns mo z C)) := by
 have HT : Hid (Gt w0 B tg mi mv v mt ns) := hT
 have HCW : Hid (Ag.Wd w (DB F bl mk nv) u C) := hC
 have HIN : Hid (∀ x ∈ C, 1 ≤ x ∧ x ≤ (ns.length : Int)) := hin
 have HSH : Hid (C.Pairwise (· < ·) ∧ (∀ x ∈ C, ∀ a, (a = (nAt ns x).a ∨ a = (nAt ns x).b ∨ a = (nAt ns x).c) → 1 ≤ a → a ∈ C) ∧ ∀ x ∈ C, (nAt ns x).op = 2 → (z.f x).isSome = true) := ⟨hri, hsh, hva⟩
 have HNK : Hid (Nk ns) := hK
 obtain ⟨R, hR⟩ : ∃ R, R = lcK ns mo z C := ⟨_, rfl⟩
 rw [← hR]
 obtain ⟨gs, hgs⟩ : ∃ gs, gs = w.heap.size := ⟨_, rfl⟩
 have hC0 : Ag.Ch w (w.alloc (.cells #[.pointer (some ⟨gA, 0, none⟩), .int .i64 0] 108)) F (Ag.FG F gs) := by
  have hb : Below w.heap.size w (w.alloc (.cells #[.pointer (some ⟨gA, 0, none⟩), .int .i64 0] 108)) := by go_grown
  refine ⟨hb.os, hb.tape, hb.output, hb.size, fun k hk _ => hb.block k hk, fun k hk => ?_⟩
  rcases hk with q | q
  ·exact Or.inl q
  ·exact Or.inr ⟨by omega, by rw [q, hgs]; simp⟩
 have HST : Hid (LC ns mo w0 w F gs bl gA tg mk nv z C R 0 (w.alloc (.cells #[.pointer (some ⟨gA, 0, none⟩), .int .i64 0] 108))) := by
  refine ⟨F, z, by rw [List.drop_zero]; exact hR, hB.ch hC0, ⟨by rw [hgs]; exact heap_alloc_new w _, hG.kept (fun k hk _ => heap_alloc_old w _ hk), (fun e => by have := hB.bd _ e; omega), fun k hk => by have := hB.bd k hk; simp; omega, Or.inl rfl⟩, chD hC0 (fun k e => hB.bdD k (Or.inr e)), hZ, (fun x hx => by simp at hx), fun i L e => e, rfl, Nat.le_refl _⟩
 have hc1 : w.cell? ⟨bl, 1, none⟩ = some (.pointer (some ⟨gA, 0, none⟩)) := Ag.cell_of hB.hd 1 rfl
 obtain ⟨ua, uc, hu, -, -⟩ := hC.sl
 obtain ⟨n, hn⟩ : ∃ n, n = C.length := ⟨_, rfl⟩
 rw [← hn] at hu hCl
 subst hu
 have HN : Hid (n = C.length) := hn
 have hbl := hB.lt
 clear hT hB hG hZ hC hin hR hn hri hsh hva hC0 hK
 go_enter Tryz.func29, Tryz.ntmps29
 go_wp2_with fail
 rw [← hgs]
 clear hc1 hgs
 go_loopw [19] (fun i wr => ∃ k : Nat, k ≤ n ∧ i = .int .i64 (k : Int) ∧ Hid (LC ns mo w0 w F gs bl gA tg mk nv z C R k wr)) (fun i wr => n - (intOf i).toNat)
 case atStart => exact ⟨0, Nat.zero_le _, rfl, HST.out⟩
 case round =>
  obtain ⟨k, hk, rfl, hH⟩ := hrel
  obtain ⟨F1, z1, hR1, hB1, hG1, hC1, hZ1, hK1, hX1, hI1, hU1⟩ := hH.out.ex
  have HUP : Hid (z.ks.length ≤ z1.ks.length) := hU1
  clear hU1
  by_cases hlt : k < n
  rotate_left
  ·obtain rfl : k = n := by omega
   have hltI : ¬ (k : Int) < (k : Int) := by omega
   have HE : Hid (LCE ns mo w0 w F bl gA tg mk nv z C R (.returned (.int .i64 0)) wr) := by
    have hRe : R = (z1, 0) := by rw [hR1, HN.out, List.drop_length]; rfl
    unfold Hid LCE
    rw [hRe]
    refine ⟨rfl, _, hB1, hG1.gr.mono (fun q e => Or.inl e), hC1, hZ1, fun _ x hx => hK1 x (by rw [HN.out, List.take_length]; exact hx), fun e => absurd rfl e, hX1, hI1, HUP.out⟩
   clear hR1 hB1 hG1 hC1 hZ1
   go_wp2_with fail
   go_ret
   exact HE.out
  have hltI : (k : Int) < (n : Int) := by omega
  obtain ⟨id, hid⟩ : ∃ id, C[k]? = some id := ⟨_, List.getElem?_eq_getElem (by rw [← HN.out]; exact hlt)⟩
  have hidC := List.mem_of_getElem? hid
  have hidin := HIN.out id hidC
  obtain ⟨i, hi⟩ : ∃ i : Nat, id = (i : Int) + 1 := ⟨(id - 1).toNat, by omega⟩
  obtain ⟨m, hm⟩ : ∃ m, ns[i]? = some m := ⟨_, List.getElem?_eq_getElem (by omega)⟩
  have hAt : nAt ns id = m := by rw [hi]; exact nAt_of hm
  have hCu := HCW.out.ch hC1
  obtain ⟨a9, c9, e9, -, -, -, h9⟩ := hCu.ex
  injection e9 with e9a e9b e9c
  obtain ⟨r, o, hr1, hr2, -, hLi⟩ := h9.resolve_left (fun e => by rw [e] at hid; simp at hid)
  rw [← e9a] at hr1
  subst hr1
  have hcu : wr.cell? ⟨r, o + k, none⟩ = some (.int .i64 id) := by
   have := hLi k (List.getElem?_eq_some_iff.1 hid).1
   rw [List.getD_eq_getElem?_getD, hid] at this
   exact this
  have hidw : w64 id := by
   have h9 := HT.out.gr.room; have h10 := HT.out.gr.most
   unfold w64; omega
  have HKN : Hid (Calls Tryz.prog 47 #[.pointer (some ⟨bl, 0, none⟩), .int .i64 id] wr fun ev w' => ev = .returned (.bool (z1.f id).isSome) ∧ w' = wr) := Ag.knows_any hB1.kw (Ag.cell_of hB1.hd 2 rfl) hidw
  have HNY : Hid (Rt 18 #[.pointer (some ⟨tg, 0, none⟩), .int .i64 id] wr (.tuple #[.agg #[.int .i64 m.op, .int .i64 m.s, .int .i64 m.a, .int .i64 m.b, .int .i64 m.c, .int .i64 m.p, .int .i64 m.q, .int .i64 m.w, .int .u64 m.lo, .int .u64 m.hi, .string m.nm], .bool true])) := by
   unfold Hid; rw [hi]; exact node_yes (HT.out.at hB1.bw) hm
  have hc0 : wr.cell? ⟨bl, 0, none⟩ = some (.pointer (some ⟨tg, 0, none⟩)) := Ag.cell_of hB1.hd 0 rfl
  have hbl1 := hB1.lt
  have HID : Hid (C[k]? = some id ∧ nAt ns id = m ∧ 1 ≤ id ∧ id ≤ (ns.length : Int) ∧ m ∈ ns ∧ ns[i]? = some m ∧ id = (i : Int) + 1 ∧ id ∈ C) := ⟨hid, hAt, hidin.1, hidin.2, List.mem_of_getElem? hm, hm, hi, hidC⟩
  have HBB : Hid (R = lcK ns mo z1 (C.drop k) ∧ Bh ns w0 wr (Ag.FG F1 gs) bl gA tg mk nv z1.f z1.ids ∧ Ag.Gn wr F1 gs gA mo ⟨z1.ks, 0⟩ ∧ Ag.Ch w wr (DB F bl mk nv) (DB (Ag.FG F1 gs) bl mk nv) ∧ Zok ns mo z1 ∧ (∀ x ∈ C.take k, (z1.f x).isSome = true) ∧ (∀ i L, z.f i = some L → z1.f i = some L) ∧ z1.ids = z.ids) := ⟨hR1, hB1, hG1, hC1, hZ1, hK1, hX1, hI1⟩
  have HLS : Hid _ := lcK_step (ns := ns) (mo := mo) (z := z1) hid
  have HTK : Hid (∀ x, x ∈ C.take (k + 1) → x ∈ C.take k ∨ x = id) := fun x hx => by
   rw [List.take_add_one, hid] at hx
   rcases List.mem_append.1 hx with q | q
   ·exact Or.inl q
   ·exact Or.inr (by simpa using q)
  clear hR1 hB1 hG1 hC1 hZ1 hK1 hX1 hI1 hCu e9b e9c h9 hLi hid hi hm hAt hidin e9a hidC
  go_wp2_with fail
  refine Calls.mono HKN.out ?_
  rintro ev w2 ⟨rfl, hw2⟩
  obtain rfl : wr = w2 := hw2.symm
  clear HKN hw2
  obtain ⟨Fi0, hFi⟩ : ∃ Fi0, Fi0 = z1.f id := ⟨_, rfl⟩
  rw [← hFi]
  cases Fi0 with
  | some L0 =>
   have HE : Hid (LC ns mo w0 w F gs bl gA tg mk nv z C R (k + 1) wr) := by
    have e : lcS ns mo z1 id = (z1, 0) := by unfold lcS; rw [if_pos (by rw [← hFi]; rfl)]
    refine ⟨F1, z1, ?_, HBB.out.2.1, HBB.out.2.2.1, HBB.out.2.2.2.1, HBB.out.2.2.2.2.1, fun x hx => ?_, HBB.out.2.2.2.2.2.2.1, HBB.out.2.2.2.2.2.2.2, HUP.out⟩
    ·rw [HBB.out.1, HLS.out, e]; simp
    ·rcases HTK.out x hx with q | q
     ·exact HBB.out.2.2.2.2.2.1 x q
     ·rw [q, ← hFi]; rfl
   clear hFi
   simp only [Option.isSome_some]
   go_wp2_with fail
   exact ⟨⟨k + 1, by omega, by go_num, HE.out⟩, by simp [intOf]; omega⟩
  | none =>
  have HFN : Hid (z1.f id = none) := hFi.symm
  clear hFi
  simp only [Option.isSome_none]
  go_wp2_with fail
  refine Calls.mono HNY.out ?_
  rintro ev w1 ⟨rfl, hb1⟩
  have HB1 : Hid (Below wr.heap.size wr w1) := hb1
  clear hb1 HNY
  obtain ⟨wb, hwb⟩ : ∃ wb, wb = w1.alloc (.cells #[.int .i64 m.op, .int .i64 m.s, .int .i64 m.a, .int .i64 m.b, .int .i64 m.c, .int .i64 m.p, .int .i64 m.q, .int .i64 m.w, .int .u64 m.lo, .int .u64 m.hi, .string m.nm] 50) := ⟨_, rfl⟩
  have HBW : Hid (Below wr.heap.size wr wb) := by
   have : Below w1.heap.size w1 wb := by rw [hwb]; go_grown
   exact HB1.out.trans (this.mono HB1.out.size)
  have HLW : Hid (wb.heap[w1.heap.size]? = some (.cells #[.int .i64 m.op, .int .i64 m.s, .int .i64 m.a, .int .i64 m.b, .int .i64 m.c, .int .i64 m.p, .int .i64 m.q, .int .i64 m.w, .int .u64 m.lo, .int .u64 m.hi, .string m.nm] 50 (0, 0))) := by unfold Hid; rw [hwb]; exact heap_alloc_new w1 _
  have HBH : Hid (Bh ns w0 wb (Ag.FG F1 gs) bl gA tg mk nv z1.f z1.ids ∧ Ag.Gn wb F1 gs gA mo ⟨z1.ks, 0⟩) := ⟨HBB.out.2.1.below HBW.out, HBB.out.2.2.1.below HBW.out⟩
  go_wp2_with fail
  rw [← hwb]
  have hn2 : ¬ m.op = 2 := fun e => by
   obtain ⟨L, hL⟩ := Option.isSome_iff_exists.1 (HSH.out.2.2 id HID.out.2.2.2.2.2.2.2 (by rw [HID.out.2.1]; exact e))
   rw [HBB.out.2.2.2.2.2.2.1 id L hL] at HFN
   cases HFN.out
  have hdk : ∀ a, (a = m.a ∨ a = m.b ∨ a = m.c) → 1 ≤ a → a ≤ (i : Int) → (z1.f a).isSome = true := fun a ha h1 h2 => HBB.out.2.2.2.2.2.1 a (cone_idx HSH.out.1 HID.out.1 (HSH.out.2.1 id HID.out.2.2.2.2.2.2.2 a (by rw [HID.out.2.1]; exact ha) h1) (by rw [HID.out.2.2.2.2.2.2.1]; omega))
  obtain ⟨kk, P, Q, ho, hp, hq, hk44, hcp, hs0, hrg⟩ := cir_node HNK.out HID.out.2.2.2.2.2.1 hn2 (f := z1.f) (fun a L e => (HBB.out.2.2.2.2.1.wd a L e).2.2.1) hdk
  obtain ⟨A, hA⟩ : ∃ A, A = (z1.f m.a).getD [] := ⟨_, rfl⟩
  obtain ⟨A2, hA2⟩ : ∃ A, A = (z1.f m.b).getD [] := ⟨_, rfl⟩
  obtain ⟨A3, hA3⟩ : ∃ A, A = (z1.f m.c).getD [] := ⟨_, rfl⟩
  have hso := HNK.out.so m HID.out.2.2.2.2.1
  have hlen : ∀ a, ((z1.f a).getD []).length ≤ 1000 ∧ Ag.Oks ⟨z1.ks, 0⟩ ((z1.f a).getD []) := fun a => by
   cases e : z1.f a with
   | none => exact ⟨by simp, fun x hx => nomatch hx⟩
   | some L =>
    obtain ⟨w1', w2', w3', w4'⟩ := HBB.out.2.2.2.2.1.wd a L e
    refine ⟨?_, w4'⟩
    have hin2 : nAt ns a ∈ ns := by
     unfold nAt
     rw [List.getElem?_eq_getElem (by omega)]
     exact List.getElem_mem _
    have := HNK.out.so _ hin2
    show L.length ≤ 1000
    rw [w3']; unfold wl; omega
  obtain ⟨pp, hpp⟩ : ∃ p, p = cirZ ns mo z1 id := ⟨_, rfl⟩
  have hcz : pp = Ag.cirF mo ⟨z1.ks, 0⟩ (cLit m) A A2 A3 P Q kk := by
   rw [hpp]; unfold cirZ Zb.gf
   rw [HID.out.2.1, ← hA, ← hA2, ← hA3, ho, hp, hq, Int.toNat_natCast, Int.toNat_natCast, Int.toNat_natCast]
  have HCI : Hid (∀ x ua ub uc, Sa wb x → Ag.Wd wb (DB (Ag.FG F1 gs) bl mk nv) ua A → Ag.Wd wb (DB (Ag.FG F1 gs) bl mk nv) ub A2 → Ag.Wd wb (DB (Ag.FG F1 gs) bl mk nv) uc A3 → Calls Tryz.prog 49 #[.pointer (some ⟨gs, 0, none⟩), .agg #[.int .i64 m.op, .int .i64 m.s, .int .i64 m.a, .int .i64 m.b, .int .i64 m.c, .int .i64 m.p, .int .i64 m.q, .int .i64 m.w, .int .u64 m.lo, .int .u64 m.hi, .string m.nm], ua, ub, uc] x (Ag.WG x F1 gs gA mo pp) ∧ Ag.WOk ⟨z1.ks, 0⟩ pp (wl m.s)) := by
   intro x ua ub uc hx h1 h2 h3
   have hgn := HBH.out.2.below hx.below
   have hna : ∀ {u : Value} {L : List Int}, Ag.Wd wb (DB (Ag.FG F1 gs) bl mk nv) u L → Ag.Wd x (Ag.FG F1 gs) u L := fun h => (wd_narrow h (fun q e => Or.inl e)).below hx.below
   rw [hcz, ho, hp, hq]
   rw [← hA, ← hA2, ← hA3] at hcp
   refine Ag.cir_any hgn (hna h1) (hna h2) (hna h3) (by rw [hA]; exact (hlen m.a).2) (by rw [hA2]; exact (hlen m.b).2) (by rw [hA3]; exact (hlen m.c).2) (by rw [hA]; exact (hlen m.a).1) (by rw [hA2]; exact (hlen m.b).1) (by unfold wl; omega) hk44 hcp (fun e => ⟨fun wx hbx => ?_, cLit_oks HBB.out.2.2.2.2.1.pos⟩)
   refine const_any (hrg e) (HNK.out.ok m HID.out.2.2.2.2.1).fi (fun q hq => ?_)
   have hd9 := (hgn.below hbx)
   rcases hq with q9 | q9
   ·exact hd9.bd q q9
   ·rw [q9]; exact hd9.lt
  have HPP : Hid (pp = cirZ ns mo z1 id) := hpp
  have HWD : Hid (∀ x (a : Int), w64 a → Sa wb x → ∃ p u, (Instr.lookup 76 (.map (some mk)) (.int .i64 a) false).run Tryz.prog x = .ok u x ∧ u = encW ((z1.f a).getD []).length p ∧ Ag.Wd wb (DB (Ag.FG F1 gs) bl mk nv) u ((z1.f a).getD [])) := by
   intro x a ha hx
   obtain ⟨u, g1, g2, g3⟩ := kw_look (HBH.out.1.below hx.below).kw ha
   have hne : (z1.f a).getD [] ≠ [] ∨ u = .slice none 0 0 := by
    cases e : z1.f a with
    | none => exact Or.inr (g3 e)
    | some L =>
     left
     show L ≠ []
     intro e2
     have := (HBB.out.2.2.2.2.1.wd a L e).2.2.1
     rw [e2] at this
     unfold wl at this
     simp at this
     omega
   obtain ⟨p, hp⟩ := wd_enc g2 hne
   exact ⟨p, u, g1, hp, g2.below hx.back⟩
  have hokm := HNK.out.ok m HID.out.2.2.2.2.1
  have HW6 : Hid (w64 m.a ∧ w64 m.b ∧ w64 m.c) := ⟨hokm.a, hokm.b, hokm.c⟩
  have HAA : Hid (A = (z1.f m.a).getD [] ∧ A2 = (z1.f m.b).getD [] ∧ A3 = (z1.f m.c).getD []) := ⟨hA, hA2, hA3⟩
  have c0 : wb.cell? ⟨w1.heap.size, 0, none⟩ = some (.int .i64 m.op) := Ag.cell_of HLW.out 0 rfl
  have c1 : wb.cell? ⟨w1.heap.size, 1, none⟩ = some (.int .i64 m.s) := Ag.cell_of HLW.out 1 rfl
  have c2 : wb.cell? ⟨w1.heap.size, 2, none⟩ = some (.int .i64 m.a) := Ag.cell_of HLW.out 2 rfl
  have c3 : wb.cell? ⟨w1.heap.size, 3, none⟩ = some (.int .i64 m.b) := Ag.cell_of HLW.out 3 rfl
  have c4 : wb.cell? ⟨w1.heap.size, 4, none⟩ = some (.int .i64 m.c) := Ag.cell_of HLW.out 4 rfl
  have c5 : wb.cell? ⟨w1.heap.size, 5, none⟩ = some (.int .i64 m.p) := Ag.cell_of HLW.out 5 rfl
  have c6 : wb.cell? ⟨w1.heap.size, 6, none⟩ = some (.int .i64 m.q) := Ag.cell_of HLW.out 6 rfl
  have c7 : wb.cell? ⟨w1.heap.size, 7, none⟩ = some (.int .i64 m.w) := Ag.cell_of HLW.out 7 rfl
  have c8 : wb.cell? ⟨w1.heap.size, 8, none⟩ = some (.int .u64 m.lo) := Ag.cell_of HLW.out 8 rfl
  have c9 : wb.cell? ⟨w1.heap.size, 9, none⟩ = some (.int .u64 m.hi) := Ag.cell_of HLW.out 9 rfl
  have c10 : wb.cell? ⟨w1.heap.size, 10, none⟩ = some (.string m.nm) := Ag.cell_of HLW.out 10 rfl
  have cm : wb.cell? ⟨bl, 2, none⟩ = some (.map (some mk)) := Ag.cell_of HBH.out.1.hd 2 rfl
  clear hwb hcu hc0 hcp hA hA2 hA3 hcz hpp ho hp hq hlen hdk hn2 hokm hrg
  have HOKW : Hid (Ag.WOk ⟨z1.ks, 0⟩ pp (wl m.s)) := by
   obtain ⟨_, u1, -, -, g1⟩ := HWD.out wb m.a HW6.out.1 ⟨rfl, rfl, rfl, rfl⟩
   obtain ⟨_, u2, -, -, g2⟩ := HWD.out wb m.b HW6.out.2.1 ⟨rfl, rfl, rfl, rfl⟩
   obtain ⟨_, u3, -, -, g3⟩ := HWD.out wb m.c HW6.out.2.2 ⟨rfl, rfl, rfl, rfl⟩
   rw [← HAA.out.1] at g1
   rw [← HAA.out.2.1] at g2
   rw [← HAA.out.2.2] at g3
   exact (HCI.out wb u1 u2 u3 ⟨rfl, rfl, rfl, rfl⟩ g1 g2 g3).2
  have HNEP : Hid (pp.1 ≠ []) := fun e => by
   have := HOKW.out.len
   rw [e] at this
   unfold wl at this
   simp at this
   omega
  refine Ag.wp_named fun a0 ha0 => ?_
  have o0 := Ag.old_at ha0 (t := 0) rfl
  have o5 := Ag.old_at ha0 (t := 5) rfl
  have o8 := Ag.old_at ha0 (t := 8) rfl
  refine Ag.wp_region_lin (S := CT wb F1 gs gA mo (DB (Ag.FG F1 gs) bl mk nv) A A2 A3 pp) [8, 15, 22, 23] (fun _ => 0) (by kernel_rfl) (by kernel_rfl) (by rw [← ha0]; kernel_rfl) (CT.start (x := wb.drew) ⟨rfl, rfl, rfl, rfl⟩) ?_
  refine' Ag.LinAll.cons _ ?_ ?_ ?_
  rotate_left 1
  ·intro g L a x hLi haft hS hK
   have t5 := (hK.old 5 (by kernel_rfl)).trans o5
   (try dsimp only at t5)
   refine Ag.go_in (Ag.wanted_all rfl) ?_
   intro K hk
   clear haft hK hLi
   go_simp
   exact hk.out g x (fun _ _ => rfl) (hS.go rfl)
  ·intro i hi; exact Or.inl (fun _ _ _ => rfl)
  refine' Ag.LinAll.cons _ ?_ ?_ ?_
  rotate_left 1
  ·intro g L a x hLi haft hS hK
   have t8 := (hK.old 8 (by kernel_rfl)).trans o8
   (try dsimp only at t8)
   have h23 : L 23 = false := by
    cases e : L 23 with
    | false => rfl
    | true => (exfalso; rw [Ag.waits (hK.cl 23 _ rfl e) 1 (by kernel_rfl)] at hLi; cases hLi)
   have hsa := hS.s0 h23
   have x_c0 := hsa.cell c0
   have x_c1 := hsa.cell c1
   have x_c2 := hsa.cell c2
   have x_c3 := hsa.cell c3
   have x_c4 := hsa.cell c4
   have x_c5 := hsa.cell c5
   have x_c6 := hsa.cell c6
   have x_c7 := hsa.cell c7
   have x_c8 := hsa.cell c8
   have x_c9 := hsa.cell c9
   have x_c10 := hsa.cell c10
   refine Ag.go_in (Ag.wanted_all rfl) ?_
   intro K hk
   clear haft hK hLi
   go_simp
   exact hk.out g x (fun _ _ => rfl) (hS.go rfl)
  ·intro i hi; exact Or.inl (fun _ _ _ => rfl)
  refine' Ag.LinAll.cons _ ?_ ?_ ?_
  rotate_left 1
  ·intro g L a x hLi haft hS hK
   have t0 := (hK.old 0 (by kernel_rfl)).trans o0
   (try dsimp only at t0)
   refine Ag.go_in (Ag.wanted_all rfl) ?_
   intro K hk
   clear haft hK hLi
   go_simp
   exact hk.out g x (fun _ _ => rfl) (hS.go rfl)
  ·intro i hi; exact Or.inl (fun _ _ _ => rfl)
  refine' Ag.LinAll.cons _ ?_ ?_ ?_
  rotate_left 1
  ·intro g L a x hLi haft hS hK
   have t37 := hK.new 2 0 _ 37 _ rfl rfl rfl (by kernel_rfl) (Ag.waits haft 2 (by kernel_rfl))
   (try dsimp only at t37)
   refine Ag.go_in (Ag.wanted_all rfl) ?_
   intro K hk
   clear haft hK hLi
   go_simp
   exact hk.out g x (fun _ _ => rfl) (hS.go rfl)
  ·intro i hi; exact Or.inl (fun _ _ _ => rfl)
  refine' Ag.LinAll.cons _ ?_ ?_ ?_
  rotate_left 1
  ·intro g L a x hLi haft hS hK
   have t38 := hK.new 3 0 _ 38 _ rfl rfl rfl (by kernel_rfl) (Ag.waits haft 3 (by kernel_rfl))
   (try dsimp only at t38)
   refine Ag.go_in (Ag.wanted_all rfl) ?_
   intro K hk
   clear haft hK hLi
   go_simp
   exact hk.out g x (fun _ _ => rfl) (hS.go rfl)
  ·intro i hi; exact Or.inl (fun _ _ _ => rfl)
  refine' Ag.LinAll.cons _ ?_ ?_ ?_
  rotate_left 1
  ·intro g L a x hLi haft hS hK
   have t39 := hK.new 4 0 _ 39 _ rfl rfl rfl (by kernel_rfl) (Ag.waits haft 4 (by kernel_rfl))
   (try dsimp only at t39)
   have h23 : L 23 = false := by
    cases e : L 23 with
    | false => rfl
    | true => (exfalso; rw [Ag.waits (hK.cl 8 _ rfl (Ag.waits (hK.cl 23 _ rfl e) 8 (by kernel_rfl))) 5 (by kernel_rfl)] at hLi; cases hLi)
   have hsa := hS.s0 h23
   have x_cm := hsa.cell cm
   refine Ag.go_in (Ag.wanted_all rfl) ?_
   intro K hk
   clear haft hK hLi
   go_simp
   exact hk.out g x (fun _ _ => rfl) (hS.go rfl)
  ·intro i hi; exact Or.inl (fun _ _ _ => rfl)
  refine' Ag.LinAll.cons _ ?_ ?_ ?_
  rotate_left 1
  ·intro g L a x hLi haft hS hK
   have t8 := (hK.old 8 (by kernel_rfl)).trans o8
   (try dsimp only at t8)
   refine Ag.go_in (Ag.wanted_all rfl) ?_
   intro K hk
   clear haft hK hLi
   go_simp
   exact hk.out g x (fun _ _ => rfl) (hS.go rfl)
  ·intro i hi; exact Or.inl (fun _ _ _ => rfl)
  refine' Ag.LinAll.cons _ ?_ ?_ ?_
  rotate_left 1
  ·intro g L a x hLi haft hS hK
   have t41 := hK.new 6 0 _ 41 _ rfl rfl rfl (by kernel_rfl) (Ag.waits haft 6 (by kernel_rfl))
   (try dsimp only at t41)
   have h23 : L 23 = false := by
    cases e : L 23 with
    | false => rfl
    | true => (exfalso; rw [Ag.waits (hK.cl 8 _ rfl (Ag.waits (hK.cl 23 _ rfl e) 8 (by kernel_rfl))) 7 (by kernel_rfl)] at hLi; cases hLi)
   have hsa := hS.s0 h23
   have x_c2 := hsa.cell c2
   refine Ag.go_in (Ag.wanted_all rfl) ?_
   intro K hk
   clear haft hK hLi
   go_simp
   exact hk.out g x (fun _ _ => rfl) (hS.go rfl)
  ·intro i hi; exact Or.inl (fun _ _ _ => rfl)
  refine Ag.LinAll.cons (fun g => encW A.length (g 8)) ?_ ?_ ?_
  ·intro g L a x hLi haft hS hK
   have t40 := hK.new 5 2 _ 40 _ rfl rfl rfl (by kernel_rfl) (Ag.waits haft 5 (by kernel_rfl))
   have t42 := hK.new 7 0 _ 42 _ rfl rfl rfl (by kernel_rfl) (Ag.waits haft 7 (by kernel_rfl))
   (try dsimp only at t40 t42)
   have h23 : L 23 = false := by
    cases e : L 23 with
    | false => rfl
    | true => (exfalso; rw [Ag.waits (hK.cl 23 _ rfl e) 8 (by kernel_rfl)] at hLi; cases hLi)
   obtain ⟨p, u, hr, hu, hw⟩ := HWD.out x m.a HW6.out.1 (hS.s0 h23)
   rw [← HAA.out.1] at hu hw
   subst hu
   refine Ag.go_in (Ag.wanted_all rfl) ?_
   intro K hk
   clear haft hK
   go_simp
   have hq := hk.out (updG g 8 p) x (Ag.updG_al (by rfl)) (hS.l1 hw)
   dsimp only at hq
   rw [updG_eq] at hq
   exact hq
  ·intro i hi; simp only [List.mem_cons, List.not_mem_nil, or_false] at hi; rcases hi with rfl | rfl | rfl | rfl; exact Or.inr (by kernel_rfl); exact Or.inl (fun g g' h => by simp only [h 8 (by decide)]); exact Or.inl (fun g g' h => by simp only [h 8 (by decide)]); exact Or.inl (fun g g' h => by simp only [h 8 (by decide)])
  refine' Ag.LinAll.cons _ ?_ ?_ ?_
  rotate_left 1
  ·intro g L a x hLi haft hS hK
   have t0 := (hK.old 0 (by kernel_rfl)).trans o0
   (try dsimp only at t0)
   refine Ag.go_in (Ag.wanted_all rfl) ?_
   intro K hk
   clear haft hK hLi
   go_simp
   exact hk.out g x (fun _ _ => rfl) (hS.go rfl)
  ·intro i hi; exact Or.inl (fun _ _ _ => rfl)
  refine' Ag.LinAll.cons _ ?_ ?_ ?_
  rotate_left 1
  ·intro g L a x hLi haft hS hK
   have t44 := hK.new 9 0 _ 44 _ rfl rfl rfl (by kernel_rfl) (Ag.waits haft 9 (by kernel_rfl))
   (try dsimp only at t44)
   refine Ag.go_in (Ag.wanted_all rfl) ?_
   intro K hk
   clear haft hK hLi
   go_simp
   exact hk.out g x (fun _ _ => rfl) (hS.go rfl)
  ·intro i hi; exact Or.inl (fun _ _ _ => rfl)
  refine' Ag.LinAll.cons _ ?_ ?_ ?_
  rotate_left 1
  ·intro g L a x hLi haft hS hK
   have t45 := hK.new 10 0 _ 45 _ rfl rfl rfl (by kernel_rfl) (Ag.waits haft 10 (by kernel_rfl))
   (try dsimp only at t45)
   refine Ag.go_in (Ag.wanted_all rfl) ?_
   intro K hk
   clear haft hK hLi
   go_simp
   exact hk.out g x (fun _ _ => rfl) (hS.go rfl)
  ·intro i hi; exact Or.inl (fun _ _ _ => rfl)
  refine' Ag.LinAll.cons _ ?_ ?_ ?_
  rotate_left 1
  ·intro g L a x hLi haft hS hK
   have t46 := hK.new 11 0 _ 46 _ rfl rfl rfl (by kernel_rfl) (Ag.waits haft 11 (by kernel_rfl))
   (try dsimp only at t46)
   have h23 : L 23 = false := by
    cases e : L 23 with
    | false => rfl
    | true => (exfalso; rw [Ag.waits (hK.cl 15 _ rfl (Ag.waits (hK.cl 23 _ rfl e) 15 (by kernel_rfl))) 12 (by kernel_rfl)] at hLi; cases hLi)
   have hsa := hS.s0 h23
   have x_cm := hsa.cell cm
   refine Ag.go_in (Ag.wanted_all rfl) ?_
   intro K hk
   clear haft hK hLi
   go_simp
   exact hk.out g x (fun _ _ => rfl) (hS.go rfl)
  ·intro i hi; exact Or.inl (fun _ _ _ => rfl)
  refine' Ag.LinAll.cons _ ?_ ?_ ?_
  rotate_left 1
  ·intro g L a x hLi haft hS hK
   have t8 := (hK.old 8 (by kernel_rfl)).trans o8
   (try dsimp only at t8)
   refine Ag.go_in (Ag.wanted_all rfl) ?_
   intro K hk
   clear haft hK hLi
   go_simp
   exact hk.out g x (fun _ _ => rfl) (hS.go rfl)
  ·intro i hi; exact Or.inl (fun _ _ _ => rfl)
  refine' Ag.LinAll.cons _ ?_ ?_ ?_
  rotate_left 1
  ·intro g L a x hLi haft hS hK
   have t48 := hK.new 13 0 _ 48 _ rfl rfl rfl (by kernel_rfl) (Ag.waits haft 13 (by kernel_rfl))
   (try dsimp only at t48)
   have h23 : L 23 = false := by
    cases e : L 23 with
    | false => rfl
    | true => (exfalso; rw [Ag.waits (hK.cl 15 _ rfl (Ag.waits (hK.cl 23 _ rfl e) 15 (by kernel_rfl))) 14 (by kernel_rfl)] at hLi; cases hLi)
   have hsa := hS.s0 h23
   have x_c3 := hsa.cell c3
   refine Ag.go_in (Ag.wanted_all rfl) ?_
   intro K hk
   clear haft hK hLi
   go_simp
   exact hk.out g x (fun _ _ => rfl) (hS.go rfl)
  ·intro i hi; exact Or.inl (fun _ _ _ => rfl)
  refine Ag.LinAll.cons (fun g => encW A2.length (g 15)) ?_ ?_ ?_
  ·intro g L a x hLi haft hS hK
   have t47 := hK.new 12 2 _ 47 _ rfl rfl rfl (by kernel_rfl) (Ag.waits haft 12 (by kernel_rfl))
   have t49 := hK.new 14 0 _ 49 _ rfl rfl rfl (by kernel_rfl) (Ag.waits haft 14 (by kernel_rfl))
   (try dsimp only at t47 t49)
   have h23 : L 23 = false := by
    cases e : L 23 with
    | false => rfl
    | true => (exfalso; rw [Ag.waits (hK.cl 23 _ rfl e) 15 (by kernel_rfl)] at hLi; cases hLi)
   obtain ⟨p, u, hr, hu, hw⟩ := HWD.out x m.b HW6.out.2.1 (hS.s0 h23)
   rw [← HAA.out.2.1] at hu hw
   subst hu
   refine Ag.go_in (Ag.wanted_all rfl) ?_
   intro K hk
   clear haft hK
   go_simp
   have hq := hk.out (updG g 15 p) x (Ag.updG_al (by rfl)) (hS.l2 hw)
   dsimp only at hq
   rw [updG_eq] at hq
   exact hq
  ·intro i hi; simp only [List.mem_cons, List.not_mem_nil, or_false] at hi; rcases hi with rfl | rfl | rfl | rfl; exact Or.inl (fun g g' h => by simp only [h 15 (by decide)]); exact Or.inr (by kernel_rfl); exact Or.inl (fun g g' h => by simp only [h 15 (by decide)]); exact Or.inl (fun g g' h => by simp only [h 15 (by decide)])
  refine' Ag.LinAll.cons _ ?_ ?_ ?_
  rotate_left 1
  ·intro g L a x hLi haft hS hK
   have t0 := (hK.old 0 (by kernel_rfl)).trans o0
   (try dsimp only at t0)
   refine Ag.go_in (Ag.wanted_all rfl) ?_
   intro K hk
   clear haft hK hLi
   go_simp
   exact hk.out g x (fun _ _ => rfl) (hS.go rfl)
  ·intro i hi; exact Or.inl (fun _ _ _ => rfl)
  refine' Ag.LinAll.cons _ ?_ ?_ ?_
  rotate_left 1
  ·intro g L a x hLi haft hS hK
   have t51 := hK.new 16 0 _ 51 _ rfl rfl rfl (by kernel_rfl) (Ag.waits haft 16 (by kernel_rfl))
   (try dsimp only at t51)
   refine Ag.go_in (Ag.wanted_all rfl) ?_
   intro K hk
   clear haft hK hLi
   go_simp
   exact hk.out g x (fun _ _ => rfl) (hS.go rfl)
  ·intro i hi; exact Or.inl (fun _ _ _ => rfl)
  refine' Ag.LinAll.cons _ ?_ ?_ ?_
  rotate_left 1
  ·intro g L a x hLi haft hS hK
   have t52 := hK.new 17 0 _ 52 _ rfl rfl rfl (by kernel_rfl) (Ag.waits haft 17 (by kernel_rfl))
   (try dsimp only at t52)
   refine Ag.go_in (Ag.wanted_all rfl) ?_
   intro K hk
   clear haft hK hLi
   go_simp
   exact hk.out g x (fun _ _ => rfl) (hS.go rfl)
  ·intro i hi; exact Or.inl (fun _ _ _ => rfl)
  refine' Ag.LinAll.cons _ ?_ ?_ ?_
  rotate_left 1
  ·intro g L a x hLi haft hS hK
   have t53 := hK.new 18 0 _ 53 _ rfl rfl rfl (by kernel_rfl) (Ag.waits haft 18 (by kernel_rfl))
   (try dsimp only at t53)
   have h23 : L 23 = false := by
    cases e : L 23 with
    | false => rfl
    | true => (exfalso; rw [Ag.waits (hK.cl 22 _ rfl (Ag.waits (hK.cl 23 _ rfl e) 22 (by kernel_rfl))) 19 (by kernel_rfl)] at hLi; cases hLi)
   have hsa := hS.s0 h23
   have x_cm := hsa.cell cm
   refine Ag.go_in (Ag.wanted_all rfl) ?_
   intro K hk
   clear haft hK hLi
   go_simp
   exact hk.out g x (fun _ _ => rfl) (hS.go rfl)
  ·intro i hi; exact Or.inl (fun _ _ _ => rfl)
  refine' Ag.LinAll.cons _ ?_ ?_ ?_
  rotate_left 1
  ·intro g L a x hLi haft hS hK
   have t8 := (hK.old 8 (by kernel_rfl)).trans o8
   (try dsimp only at t8)
   refine Ag.go_in (Ag.wanted_all rfl) ?_
   intro K hk
   clear haft hK hLi
   go_simp
   exact hk.out g x (fun _ _ => rfl) (hS.go rfl)
  ·intro i hi; exact Or.inl (fun _ _ _ => rfl)
  refine' Ag.LinAll.cons _ ?_ ?_ ?_
  rotate_left 1
  ·intro g L a x hLi haft hS hK
   have t55 := hK.new 20 0 _ 55 _ rfl rfl rfl (by kernel_rfl) (Ag.waits haft 20 (by kernel_rfl))
   (try dsimp only at t55)
   have h23 : L 23 = false := by
    cases e : L 23 with
    | false => rfl
    | true => (exfalso; rw [Ag.waits (hK.cl 22 _ rfl (Ag.waits (hK.cl 23 _ rfl e) 22 (by kernel_rfl))) 21 (by kernel_rfl)] at hLi; cases hLi)
   have hsa := hS.s0 h23
   have x_c4 := hsa.cell c4
   refine Ag.go_in (Ag.wanted_all rfl) ?_
   intro K hk
   clear haft hK hLi
   go_simp
   exact hk.out g x (fun _ _ => rfl) (hS.go rfl)
  ·intro i hi; exact Or.inl (fun _ _ _ => rfl)
  refine Ag.LinAll.cons (fun g => encW A3.length (g 22)) ?_ ?_ ?_
  ·intro g L a x hLi haft hS hK
   have t54 := hK.new 19 2 _ 54 _ rfl rfl rfl (by kernel_rfl) (Ag.waits haft 19 (by kernel_rfl))
   have t56 := hK.new 21 0 _ 56 _ rfl rfl rfl (by kernel_rfl) (Ag.waits haft 21 (by kernel_rfl))
   (try dsimp only at t54 t56)
   have h23 : L 23 = false := by
    cases e : L 23 with
    | false => rfl
    | true => (exfalso; rw [Ag.waits (hK.cl 23 _ rfl e) 22 (by kernel_rfl)] at hLi; cases hLi)
   obtain ⟨p, u, hr, hu, hw⟩ := HWD.out x m.c HW6.out.2.2 (hS.s0 h23)
   rw [← HAA.out.2.2] at hu hw
   subst hu
   refine Ag.go_in (Ag.wanted_all rfl) ?_
   intro K hk
   clear haft hK
   go_simp
   have hq := hk.out (updG g 22 p) x (Ag.updG_al (by rfl)) (hS.l3 hw)
   dsimp only at hq
   rw [updG_eq] at hq
   exact hq
  ·intro i hi; simp only [List.mem_cons, List.not_mem_nil, or_false] at hi; rcases hi with rfl | rfl | rfl | rfl; exact Or.inl (fun g g' h => by simp only [h 22 (by decide)]); exact Or.inl (fun g g' h => by simp only [h 22 (by decide)]); exact Or.inr (by kernel_rfl); exact Or.inl (fun g g' h => by simp only [h 22 (by decide)])
  refine Ag.LinAll.cons (fun g => encW pp.1.length (g 23)) ?_ ?_ ?_
  ·intro g L a x hLi haft hS hK
   have t35 := hK.new 0 22 _ 35 _ rfl rfl rfl (by kernel_rfl) (Ag.waits haft 0 (by kernel_rfl))
   have t36 := hK.new 1 21 _ 36 _ rfl rfl rfl (by kernel_rfl) (Ag.waits haft 1 (by kernel_rfl))
   have t43 := hK.new 8 14 _ 43 _ rfl rfl rfl (by kernel_rfl) (Ag.waits haft 8 (by kernel_rfl))
   have t50 := hK.new 15 7 _ 50 _ rfl rfl rfl (by kernel_rfl) (Ag.waits haft 15 (by kernel_rfl))
   have t57 := hK.new 22 0 _ 57 _ rfl rfl rfl (by kernel_rfl) (Ag.waits haft 22 (by kernel_rfl))
   (try dsimp only at t35 t36 t43 t50 t57)
   have hL8 := Ag.waits haft 8 (by kernel_rfl)
   have hL15 := Ag.waits haft 15 (by kernel_rfl)
   have hL22 := Ag.waits haft 22 (by kernel_rfl)
   have hcall := (HCI.out x _ _ _ (hS.s0 hLi) (hS.k1 hL8) (hS.k2 hL15) (hS.k3 hL22)).1
   refine Ag.go_in (Ag.wanted_all rfl) ?_
   intro K hk
   clear haft hK
   go_simp
   refine Calls.mono hcall ?_
   rintro ev y ⟨u9, rfl, F9, hw9, hg9, hc9⟩
   obtain ⟨p, rfl⟩ := wd_enc hw9 (Or.inl HNEP.out)
   have hq := hk.out (updG g 23 p) y (Ag.updG_al (by rfl)) (hS.called hLi hw9 hg9 hc9)
   dsimp only at hq
   rw [updG_eq] at hq
   exact hq
  ·intro i hi; simp only [List.mem_cons, List.not_mem_nil, or_false] at hi; rcases hi with rfl | rfl | rfl | rfl; exact Or.inl (fun g g' h => by simp only [h 23 (by decide)]); exact Or.inl (fun g g' h => by simp only [h 23 (by decide)]); exact Or.inl (fun g g' h => by simp only [h 23 (by decide)]); exact Or.inr (by kernel_rfl)
  refine Ag.LinAll.cons (fun g => encW pp.1.length (g 23)) ?_ ?_ ?_
  ·intro g L a x hLi haft hS hK
   have t58 := hK.new 23 0 _ 58 _ rfl rfl rfl (by kernel_rfl) (Ag.waits haft 23 (by kernel_rfl))
   (try dsimp only at t58)
   refine Ag.go_in (Ag.wanted_all rfl) ?_
   intro K hk
   clear haft hK hLi
   go_simp
   exact hk.out g x (fun _ _ => rfl) (hS.go rfl)
  ·intro i hi; simp only [List.mem_cons, List.not_mem_nil, or_false] at hi; rcases hi with rfl | rfl | rfl | rfl; exact Or.inl (fun g g' h => by simp only [h 23 (by decide)]); exact Or.inl (fun g g' h => by simp only [h 23 (by decide)]); exact Or.inl (fun g g' h => by simp only [h 23 (by decide)]); exact Or.inr (by kernel_rfl)
  refine Ag.LinAll.nil fun g x hS => ?_
  subst ha0
  simp only [Act.put, List.setIfInBounds_toArray, List.set_cons_zero, List.set_cons_succ]
  clear o0 o5 o8
  obtain ⟨y, F2, hy, hW2, hG2, hC2⟩ := hS.s1 (by decide)
  have hB2 : Bh ns w0 x (Ag.FG F2 gs) bl gA tg mk nv z1.f z1.ids := (HBH.out.1.below hy.below).ch hC2
  have hCC : Ag.Ch w x (DB F bl mk nv) (DB (Ag.FG F2 gs) bl mk nv) := ((HBB.out.2.2.2.1.trans (Ag.Ch.of_below _ HBW.out)).trans (Ag.Ch.of_below _ hy.below)).trans (chD hC2 (fun q e => by rw [hy.heap]; exact HBH.out.1.bdD q (Or.inr e)))
  have HOK : Hid _ := lcS_ok (mo := mo) HBB.out.2.2.2.2.1 HID.out.2.2.1 HID.out.2.2.2.1 (fun _ => by rw [← HPP.out, HID.out.2.1]; exact HOKW.out) (fun _ => by rw [← HPP.out]; exact hG2.rk) (fun _ => by rw [← HPP.out]; exact hG2.gr.len.1)
  have hlS : lcS ns mo z1 id = if pp.2.r ≠ 0 then (⟨z1.f, z1.ids, pp.2.ks⟩, pp.2.r) else (⟨Ag.upK z1.f id pp.1, z1.ids, pp.2.ks⟩, 0) := by
   unfold lcS
   rw [if_neg (by rw [HFN.out]; simp), ← HPP.out]
  have HLC : Hid _ := hlS
  have HB2 : Hid (Bh ns w0 x (Ag.FG F2 gs) bl gA tg mk nv z1.f z1.ids ∧ Ag.Ch w x (DB F bl mk nv) (DB (Ag.FG F2 gs) bl mk nv) ∧ Ag.Gn x F2 gs gA mo pp.2) := ⟨hB2, hCC, hG2⟩
  have hc9 : x.cell? ⟨gs, 1, none⟩ = some (.int .i64 pp.2.r) := Ag.cell_of hG2.hd 1 rfl
  have hgl : gs < x.heap.size := hG2.lt
  obtain ⟨re, hre⟩ : ∃ re, re = pp.2.r := ⟨_, rfl⟩
  rw [← hre] at hc9
  have HRE : Hid (re = pp.2.r) := hre
  have HW2 : Hid (Ag.Wd x (Ag.FG F2 gs) (encW pp.1.length (g 23)) pp.1) := hW2
  clear hS hB2 hCC hG2 hC2 hlS hre hW2 c0 c1 c2 c3 c4 c5 c6 c7 c8 c9 c10 cm
  by_cases hr0 : re = 0
  rotate_left
  ·have hrb : (re != 0) = true := by simp [hr0]
   have HE : Hid (LCE ns mo w0 w F bl gA tg mk nv z C R (.returned (.int .i64 re)) x) := by
    have e : lcS ns mo z1 id = (⟨z1.f, z1.ids, pp.2.ks⟩, re) := by rw [HLC.out, if_pos (by rw [← HRE.out]; exact hr0), ← HRE.out]
    have hRe : R = (⟨z1.f, z1.ids, pp.2.ks⟩, re) := by rw [HBB.out.1, HLS.out, e, if_pos hr0]
    have hok := HOK.out
    rw [e] at hok
    unfold Hid LCE
    rw [hRe]
    exact ⟨rfl, _, HB2.out.1, HB2.out.2.2.gr.mono (fun q e => Or.inl e), HB2.out.2.1, hok.1, fun e => absurd e hr0, fun _ => hok.2.1 hr0, HBB.out.2.2.2.2.2.2.1, HBB.out.2.2.2.2.2.2.2, Nat.le_trans HUP.out HOKW.out.pre.length_le⟩
   go_wp2_with fail
   go_ret
   exact HE.out
  subst hr0
  obtain ⟨w4, hu4, hB4, hg4, hz4⟩ := HB2.out.1.put hidw HFN.out HW2.out
  have hcm : x.cell? ⟨bl, 2, none⟩ = some (.map (some mk)) := Ag.cell_of HB2.out.1.hd 2 rfl
  have hblx := HB2.out.1.lt
  have HE : Hid (LC ns mo w0 w F gs bl gA tg mk nv z C R (k + 1) w4) := by
   have e : lcS ns mo z1 id = (⟨Ag.upK z1.f id pp.1, z1.ids, pp.2.ks⟩, 0) := by rw [HLC.out, if_neg (by rw [← HRE.out]; simp)]
   have hok := HOK.out
   rw [e] at hok
   have hkp : ∀ q, q < x.heap.size → q ≠ mk → w4.heap[q]? = x.heap[q]? := fun q hq hn => hg4.block q hq (fun e => hn (Option.some.inj e))
   have hnm := HB2.out.1.nmk
   have hgn := HB2.out.2.2
   have hC4 : Ag.Ch x w4 (DB (Ag.FG F2 gs) bl mk nv) (DB (Ag.FG F2 gs) bl mk nv) := ⟨hg4.os, hg4.tape, hg4.output, hg4.size, fun q hq hn => hkp q hq (fun e => hn (Or.inr (Or.inr (Or.inl e)))), fun q hq => Or.inl hq⟩
   refine ⟨F2, ⟨Ag.upK z1.f id pp.1, z1.ids, pp.2.ks⟩, ?_, hB4, ⟨?_, ?_, hgn.nf, fun q hq => by rw [hz4]; exact hgn.bd q hq, Or.inl rfl⟩, HB2.out.2.1.trans hC4, hok.1, fun y hy => ?_, fun i L hi => ?_, HBB.out.2.2.2.2.2.2.2, Nat.le_trans HUP.out HOKW.out.pre.length_le⟩
   ·rw [HBB.out.1, HLS.out, e]; simp
   ·have hdg := hgn.hd
    rw [← HRE.out] at hdg
    rw [hkp gs hgn.lt (fun e => hnm (by rw [← e]; exact Or.inr rfl))]
    exact hdg
   ·exact hgn.gr.kept (fun q hq hF => hkp q hq (fun e => hnm (by rw [← e]; exact Or.inl hF)))
   ·show (Ag.upK z1.f id pp.1 y).isSome = true
    unfold Ag.upK
    split
    ·rfl
    ·next hne =>
     rcases HTK.out y hy with q | q
     ·exact HBB.out.2.2.2.2.2.1 y q
     ·exact absurd q hne
   ·show Ag.upK z1.f id pp.1 i = some L
    have h8 := HBB.out.2.2.2.2.2.2.1 i L hi
    unfold Ag.upK
    rw [if_neg (fun e => by rw [e, HFN.out] at h8; cases h8)]
    exact h8
  clear hB4 hg4 hz4
  go_wp2_with fail
  exact ⟨⟨k + 1, by omega, by go_num, HE.out⟩, by simp [intOf]; omega⟩
end Go.Proofs.YtcahhahbcijkiaaGreat
