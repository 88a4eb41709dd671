import Derived.Test.YtcahhahbcijkiaaGreatMg46
namespace Go.Proofs.YtcahhahbcijkiaaGreat
set_option maxHeartbeats 12800000
set_option maxRecDepth 100000
open Go.RowKit
set_option linter.unusedSimpArgs false
set_option linter.unusedVariables false
theorem Zok.ids_len {ns : List Nd} {mo : Nat} {z : Zb} (h : Zok ns mo z) : z.ids.length ≤ z.ks.length := by
 have h1 : ∀ l : List Int, (∀ i ∈ l, (z.f i).isSome = true) → l.length ≤ (l.flatMap z.gf).length := by
  intro l
  induction l with
  | nil => intro _; simp
  | cons i l ih =>
   intro hl
   have h2 := ih (fun j hj => hl j (List.mem_cons_of_mem _ hj))
   obtain ⟨L, hL⟩ := Option.isSome_iff_exists.1 (hl i List.mem_cons_self)
   have h3 := (h.wd i L hL).2.2.1
   have h4 : (z.gf i).length = wl (nAt ns i).s := by unfold Zb.gf; rw [hL]; exact h3
   have h5 : 1 ≤ wl (nAt ns i).s := by unfold wl; omega
   rw [List.flatMap_cons, List.length_append, List.length_cons]
   omega
 have h2 := h1 z.ids (fun i hi => (h.vs i hi).1)
 have h3 := Ag.insL_len z.ks
 rcases h.ins with q | ⟨-, q⟩
 ·rw [← q] at h2; omega
 ·omega
theorem nAt_of {ns : List Nd} {i : Nat} {n : Nd} (h : ns[i]? = some n) : nAt ns ((i : Int) + 1) = n := by
 unfold nAt
 rw [show ((i : Int) + 1 - 1).toNat = i by omega, h]; rfl
theorem liK_step {ns : List Nd} {mo : Nat} {z : Zb} {C : List Int} {k : Nat} {id : Int} (h : C[k]? = some id) : liK ns mo z (C.drop k) = if (liS ns mo z id).2 ≠ 0 then liS ns mo z id else liK ns mo (liS ns mo z id).1 (C.drop (k + 1)) := by
 have hk := (List.getElem?_eq_some_iff.1 h).1
 rw [List.drop_eq_getElem_cons hk]
 rw [List.getElem?_eq_getElem hk] at h
 injection h with h
 rw [h, liK]
structure LI (ns : List Nd) (mo : Nat) (w0 : W0) (w : World) (F : Nat → Prop) (bl g tg mk : Nat) (nv : Value) (z : Zb) (C : List Int) (R : Zb × Int) (k : Nat) (wr : World) : Prop where
 ex : ∃ F1 nv1 z1, R = liK ns mo z1 (C.drop k) ∧ Bh ns w0 wr F1 bl g tg mk nv1 z1.f z1.ids ∧ Ag.Gr wr F1 g mo z1.ks ∧ Ag.Ch w wr (DB F bl mk nv) (DB F1 bl mk nv1) ∧ Zok ns mo z1 ∧ z.ks.length ≤ z1.ks.length
def LIE (ns : List Nd) (mo : Nat) (w0 : W0) (w : World) (F : Nat → Prop) (bl g tg mk : Nat) (nv : Value) (z : Zb) (R : Zb × Int) (ev : Ending) (w' : World) : Prop :=
 ev = .returned (.int .i64 R.2) ∧ ∃ F1 nv1, Bh ns w0 w' F1 bl g tg mk nv1 R.1.f R.1.ids ∧ Ag.Gr w' F1 g mo R.1.ks ∧ Ag.Ch w w' (DB F bl mk nv) (DB F1 bl mk nv1) ∧ Zok ns mo R.1 ∧ z.ks.length ≤ R.1.ks.length
theorem lay_inputs {ns : List Nd} {w0 : W0} {w : World} {F : Nat → Prop} {bl gA tg mk mo mi mv B mt : Nat} {v nv u : Value} {z : Zb} {C : List Int} (hT : Gt w0 B tg mi mv v mt ns) (hB : Bh ns w0 w F bl gA tg mk nv z.f z.ids) (hG : Ag.Gr w F gA mo z.ks) (hZ : Zok ns mo z) (hC : Ag.Wd w F u C) (hin : ∀ x ∈ C, 1 ≤ x ∧ x ≤ (ns.length : Int)) (hCl : C.length ≤ 5000) (hso : ∀ n ∈ ns, n.s ≤ 1000) (hnm : ∀ n ∈ ns, n.nm.size ≤ maxLen) :
  Calls Tryz.prog 28 #[.pointer (some ⟨bl, 0, none⟩), u] w (LIE ns mo w0 w F bl gA tg mk nv z (liK ns mo z C)) := by
 have HT : Hid (Gt w0 B tg mi mv v mt ns) := hT
 have HCW : Hid (Ag.Wd w (DB F bl mk nv) u C) := hB.word hC
 have HIN : Hid _ := hin
 have HSO : Hid _ := hso
 have HNM : Hid _ := hnm
 obtain ⟨R, hR⟩ : ∃ R, R = liK ns mo z C := ⟨_, rfl⟩
 rw [← hR]
 have HST : Hid (LI ns mo w0 w F bl gA tg mk nv z C R 0 w) := ⟨F, nv, z, by rw [List.drop_zero]; exact hR, hB, hG, Ag.Ch.refl _ _, hZ, Nat.le_refl _⟩
 obtain ⟨ua, uc, hu, -, -⟩ := hC.sl
 obtain ⟨n, hn⟩ : ∃ n, n = C.length := ⟨_, rfl⟩
 rw [← hn] at hu hCl
 subst hu
 have HN : Hid (n = C.length) := hn
 have hbl := hB.lt
 clear hT hB hG hZ hC hin hso hR hn hnm
 go_enter Tryz.func28, Tryz.ntmps28
 go_wp2_with fail
 go_loopw [13] (fun i wr => ∃ k : Nat, k ≤ n ∧ i = .int .i64 (k : Int) ∧ Hid (LI ns mo w0 w F bl gA tg mk nv z C R k wr)) (fun i wr => n - (intOf i).toNat)
 case atStart => exact ⟨0, Nat.zero_le _, rfl, HST.out⟩
 case round =>
  obtain ⟨k, hk, rfl, hH⟩ := hrel
  obtain ⟨F1, nv1, z1, hR1, hB1, hG1, hC1, hZ1, hU1⟩ := hH.out.ex
  have HUP : Hid (z.ks.length ≤ z1.ks.length) := hU1
  clear hU1
  by_cases hlt : k < n
  rotate_left
  ·obtain rfl : k = n := by omega
   have hltI : ¬ (k : Int) < (k : Int) := by omega
   have HE : Hid (R = (z1, 0)) := by
    unfold Hid; rw [hR1, HN.out, List.drop_length]; rfl
   have HF : Hid (∃ F1 nv1, Bh ns w0 wr F1 bl gA tg mk nv1 R.1.f R.1.ids ∧ Ag.Gr wr F1 gA mo R.1.ks ∧ Ag.Ch w wr (DB F bl mk nv) (DB F1 bl mk nv1) ∧ Zok ns mo R.1 ∧ z.ks.length ≤ R.1.ks.length) := by
    unfold Hid; rw [HE.out]; exact ⟨F1, nv1, hB1, hG1, hC1, hZ1, HUP.out⟩
   clear hR1 hB1 hG1 hC1 hZ1
   go_wp2_with fail
   go_ret
   exact ⟨by rw [HE.out]; rfl, HF.out⟩
  have hltI : (k : Int) < (n : Int) := by omega
  obtain ⟨id, hid⟩ : ∃ id, C[k]? = some id := ⟨_, List.getElem?_eq_getElem (by rw [← HN.out]; exact hlt)⟩
  have hidin := HIN.out id (List.mem_of_getElem? hid)
  obtain ⟨i, hi⟩ : ∃ i : Nat, id = (i : Int) + 1 := ⟨(id - 1).toNat, by omega⟩
  obtain ⟨m, hm⟩ : ∃ m, ns[i]? = some m := ⟨_, List.getElem?_eq_getElem (by omega)⟩
  have hAt : nAt ns id = m := by rw [hi]; exact nAt_of hm
  have hCu := HCW.out.ch hC1
  obtain ⟨a9, c9, e9, -, -, -, h9⟩ := hCu.ex
  injection e9 with e9a e9b e9c
  obtain ⟨r, o, hr1, hr2, -, hLi⟩ := h9.resolve_left (fun e => by rw [e] at hid; simp at hid)
  rw [← e9a] at hr1
  subst hr1
  have hcu : wr.cell? ⟨r, o + k, none⟩ = some (.int .i64 id) := by
   have := hLi k (List.getElem?_eq_some_iff.1 hid).1
   rw [List.getD_eq_getElem?_getD, hid] at this
   exact this
  have hc0 : wr.cell? ⟨bl, 0, none⟩ = some (.pointer (some ⟨tg, 0, none⟩)) := Ag.cell_of hB1.hd 0 rfl
  have hNY : Rt 18 #[.pointer (some ⟨tg, 0, none⟩), .int .i64 id] wr (.tuple #[.agg #[.int .i64 m.op, .int .i64 m.s, .int .i64 m.a, .int .i64 m.b, .int .i64 m.c, .int .i64 m.p, .int .i64 m.q, .int .i64 m.w, .int .u64 m.lo, .int .u64 m.hi, .string m.nm], .bool true]) := by
   rw [hi]; exact node_yes (HT.out.at hB1.bw) hm
  have HNY : Hid _ := hNY
  have hbl1 := hB1.lt
  have HID : Hid (C[k]? = some id ∧ nAt ns id = m ∧ 1 ≤ id ∧ id ≤ (ns.length : Int) ∧ m ∈ ns) := ⟨hid, hAt, hidin.1, hidin.2, List.mem_of_getElem? hm⟩
  have HBB : Hid (R = liK ns mo z1 (C.drop k) ∧ Bh ns w0 wr F1 bl gA tg mk nv1 z1.f z1.ids ∧ Ag.Gr wr F1 gA mo z1.ks ∧ Ag.Ch w wr (DB F bl mk nv) (DB F1 bl mk nv1) ∧ Zok ns mo z1) := ⟨hR1, hB1, hG1, hC1, hZ1⟩
  clear hR1 hB1 hG1 hC1 hZ1 hCu e9b e9c h9 hLi hNY hid hi hm hAt hidin e9a
  go_wp2_with fail
  refine Calls.mono HNY.out ?_
  rintro ev w1 ⟨rfl, hb1⟩
  have HB1 : Hid (Below wr.heap.size wr w1) := hb1
  clear hb1 HNY
  obtain ⟨wb, hwb⟩ : ∃ wb, wb = w1.alloc (.cells #[.int .i64 m.op, .int .i64 m.s, .int .i64 m.a, .int .i64 m.b, .int .i64 m.c, .int .i64 m.p, .int .i64 m.q, .int .i64 m.w, .int .u64 m.lo, .int .u64 m.hi, .string m.nm] 50) := ⟨_, rfl⟩
  have HBW : Hid (Below wr.heap.size wr wb) := by
   have : Below w1.heap.size w1 wb := by rw [hwb]; go_grown
   exact HB1.out.trans (this.mono HB1.out.size)
  have hLS := liK_step (ns := ns) (mo := mo) (z := z1) HID.out.1
  have HLS : Hid _ := hLS
  have hOK := liS_ok (mo := mo) HBB.out.2.2.2.2 HID.out.2.2.1 HID.out.2.2.2.1
  have HOK : Hid _ := hOK
  clear hLS hOK
  by_cases hop : m.op = 2
  rotate_left
  ·have hopb : (m.op != 2) = true := by simp [hop]
   have HE : Hid (LI ns mo w0 w F bl gA tg mk nv z C R (k + 1) wb) := by
    have e : liS ns mo z1 id = (z1, 0) := by unfold liS; rw [if_pos (Or.inl (by rw [HID.out.2.1]; exact hop))]
    refine ⟨F1, nv1, z1, ?_, HBB.out.2.1.below HBW.out, HBB.out.2.2.1.below HBW.out, HBB.out.2.2.2.1.trans (Ag.Ch.of_below _ HBW.out), HBB.out.2.2.2.2, HUP.out⟩
    rw [HBB.out.1, HLS.out, e]; simp
   rw [hwb] at HE
   clear hwb HBW
   go_wp2_with fail
   exact ⟨⟨k + 1, by omega, by go_num, HE.out⟩, by simp [intOf]; omega⟩
  have hopb : (m.op != 2) = false := by simp [hop]
  have HOP : Hid (m.op = 2) := hop
  clear hop
  have HBH : Hid (Bh ns w0 wb F1 bl gA tg mk nv1 z1.f z1.ids ∧ Ag.Gr wb F1 gA mo z1.ks ∧ wb.heap.size = w1.heap.size + 1) := ⟨HBB.out.2.1.below HBW.out, HBB.out.2.2.1.below HBW.out, by rw [hwb]; simp⟩
  have hidw : w64 id := by
   have h8 := HID.out.2.2; have h9 := HT.out.gr.room; have h10 := HT.out.gr.most
   unfold w64; omega
  have hidw2 : Ag.w64 id := hidw
  have HKN : Hid (Calls Tryz.prog 47 #[.pointer (some ⟨bl, 0, none⟩), .int .i64 id] wb fun ev w' => ev = .returned (.bool (z1.f id).isSome) ∧ w' = wb) := Ag.knows_any HBH.out.1.kw (Ag.cell_of HBH.out.1.hd 2 rfl) hidw2
  have HLW : Hid (wb.heap[w1.heap.size]? = some (.cells #[.int .i64 m.op, .int .i64 m.s, .int .i64 m.a, .int .i64 m.b, .int .i64 m.c, .int .i64 m.p, .int .i64 m.q, .int .i64 m.w, .int .u64 m.lo, .int .u64 m.hi, .string m.nm] 50 (0, 0))) := by unfold Hid; rw [hwb]; exact heap_alloc_new w1 _
  rw [hwb] at HKN
  go_wp2_with fail
  refine Calls.mono HKN.out ?_
  rintro ev w2 ⟨rfl, hw2⟩
  rw [← hwb] at hw2
  subst hw2
  clear HKN hwb
  obtain ⟨Fi, hFi⟩ : ∃ Fi, Fi = z1.f id := ⟨_, rfl⟩
  rw [← hFi]
  cases Fi with
  | some L0 =>
   have HE : Hid (LI ns mo w0 w F bl gA tg mk nv z C R (k + 1) w2) := by
    have e : liS ns mo z1 id = (z1, 0) := by unfold liS; rw [if_pos (Or.inr (by rw [← hFi]; rfl))]
    refine ⟨F1, nv1, z1, ?_, HBH.out.1, HBH.out.2.1, HBB.out.2.2.2.1.trans (Ag.Ch.of_below _ HBW.out), HBB.out.2.2.2.2, HUP.out⟩
    rw [HBB.out.1, HLS.out, e]; simp
   clear hFi
   simp only [Option.isSome_some]
   go_wp2_with fail
   exact ⟨⟨k + 1, by omega, by go_num, HE.out⟩, by simp [intOf]; omega⟩
  | none =>
  have HFN : Hid (z1.f id = none) := hFi.symm
  clear hFi
  simp only [Option.isSome_none]
  obtain ⟨N, hN⟩ : ∃ N : Nat, N = wl m.s := ⟨_, rfl⟩
  have hNm : max m.s 1 = (N : Int) := by rw [hN]; unfold wl; omega
  have hN1 : N ≤ 1000 := by have := HSO.out m HID.out.2.2.2.2; omega
  have HINP : Hid _ := Ag.binputs_any HBH.out.2.1 HBH.out.1.bd HBH.out.1.nbl (Ag.cell_of HBH.out.1.hd 1 rfl) hNm hN1
  have c1 : w2.cell? ⟨w1.heap.size, 1, none⟩ = some (.int .i64 m.s) := Ag.cell_of HLW.out 1 rfl
  have hlw : w1.heap.size < w2.heap.size := by rw [HBH.out.2.2]; omega
  have hLiS : liS ns mo z1 id = if (Ag.ipK mo z1.ks N).2.1 ≠ 0 then (⟨z1.f, z1.ids, (Ag.ipK mo z1.ks N).2.2⟩, (Ag.ipK mo z1.ks N).2.1) else (⟨Ag.upK z1.f id (Ag.ipK mo z1.ks N).1, z1.ids ++ [id], (Ag.ipK mo z1.ks N).2.2⟩, 0) := by
   unfold liS
   rw [if_neg (by rw [HID.out.2.1, HFN.out, HOP.out]; simp), HID.out.2.1, ← hN]
  obtain ⟨P, hP⟩ : ∃ P, P = Ag.ipK mo z1.ks N := ⟨_, rfl⟩
  rw [← hP] at hLiS HINP
  have HIP : Hid (z1.ks.length ≤ P.2.2.length) := by unfold Hid; rw [hP]; exact (Ag.ipK_pr HBB.out.2.2.2.2.pos HBB.out.2.2.2.2.room N).pre.length_le
  have HLI : Hid _ := hLiS
  clear hLiS hP hN hNm
  obtain ⟨IL, ie, IK⟩ := P
  go_wp2_with fail
  refine Calls.mono HINP.out ?_
  rintro ev w3 ⟨u3, rfl, F3, hW3, hG3, hC3⟩
  have HW3 : Hid (Ag.Wd w3 F3 u3 IL) := hW3
  have HG3 : Hid (Ag.Gr w3 F3 gA mo IK) := hG3
  have HC3 : Hid (Ag.Ch w2 w3 F1 F3) := hC3
  obtain ⟨a3, c3, e3, -, -⟩ := hW3.sl
  obtain ⟨n3, hn3⟩ : ∃ n, n = IL.length := ⟨_, rfl⟩
  rw [← hn3] at e3
  subst e3
  clear hW3 hG3 hC3 HINP hn3
  have HB3 : Hid (Bh ns w0 w3 F3 bl gA tg mk nv1 z1.f z1.ids) := HBH.out.1.ch HC3.out
  by_cases hie : ie = 0
  rotate_left
  ·have hieb : (ie != 0) = true := by simp [hie]
   have HE : Hid (LIE ns mo w0 w F bl gA tg mk nv z R (.returned (.int .i64 ie)) w3) := by
    have e : liS ns mo z1 id = (⟨z1.f, z1.ids, IK⟩, ie) := by rw [HLI.out, if_pos hie]
    have hR : R = (⟨z1.f, z1.ids, IK⟩, ie) := by rw [HBB.out.1, HLS.out, e, if_pos hie]
    have hZ : Zok ns mo ⟨z1.f, z1.ids, IK⟩ := by have := HOK.out.1; rw [e] at this; exact this
    unfold Hid LIE
    rw [hR]
    exact ⟨rfl, F3, nv1, HB3.out, HG3.out, (HBB.out.2.2.2.1.trans (Ag.Ch.of_below _ HBW.out)).trans (chD HC3.out (fun q e => HBH.out.1.bdD q (Or.inr e))), hZ, Nat.le_trans HUP.out HIP.out⟩
   go_wp2_with fail
   go_ret
   exact HE.out
  subst hie
  have HRR : Hid (R = liK ns mo ⟨Ag.upK z1.f id IL, z1.ids ++ [id], IK⟩ (C.drop (k + 1)) ∧ Zok ns mo ⟨Ag.upK z1.f id IL, z1.ids ++ [id], IK⟩) := by
   have e : liS ns mo z1 id = (⟨Ag.upK z1.f id IL, z1.ids ++ [id], IK⟩, 0) := by rw [HLI.out, if_neg (by simp)]
   refine ⟨by rw [HBB.out.1, HLS.out, e]; simp, ?_⟩
   have := HOK.out.1; rw [e] at this; exact this
  obtain ⟨w4, hu4, hB4, hg4, hz4⟩ := HB3.out.put hidw HFN.out HW3.out
  have HB4 : Hid (Bh ns w0 w4 F3 bl gA tg mk nv1 (Ag.upK z1.f id IL) z1.ids) := hB4
  have HG4 : Hid (w3.grownBy w4 (some mk)) := hg4
  have HZ4 : Hid (w4.heap.size = w3.heap.size) := hz4
  have hcm : w3.cell? ⟨bl, 2, none⟩ = some (.map (some mk)) := Ag.cell_of HB3.out.hd 2 rfl
  have hbl3 := HB3.out.lt
  clear hB4 hg4 hz4 c1
  have hLW3 : w3.heap[w1.heap.size]? = w2.heap[w1.heap.size]? := HC3.out.block _ hlw (fun e => by have := HBB.out.2.1.bd _ e; have := HB1.out.size; omega)
  have hlw3 : w1.heap.size < w3.heap.size := Nat.lt_of_lt_of_le hlw HC3.out.size
  have hLW4 : w4.heap[w1.heap.size]? = w3.heap[w1.heap.size]? := HG4.out.block _ hlw3 (fun e => by injection e with e; have := HBB.out.2.1.kw.lt; have := HB1.out.size; omega)
  have c10 : w4.cell? ⟨w1.heap.size, 10, none⟩ = some (.string m.nm) := Ag.cell_of (hLW4.trans (hLW3.trans HLW.out)) 10 rfl
  have hlw4 : w1.heap.size < w4.heap.size := World.block_lt_of_cell? _ _ c10
  have cb3 : w4.cell? ⟨bl, 3, none⟩ = some nv1 := Ag.cell_of HB4.out.hd 3 rfl
  have hbl4 := HB4.out.lt
  have fb3 : w4.frozen? ⟨bl, 3, none⟩ = false := by simp [World.frozen?, HB4.out.hd]
  clear hLW3 hLW4 hlw hlw3
  obtain ⟨NQ, hNQ⟩ : ∃ N, N = (nmV ns z1.ids).length := ⟨_, rfl⟩
  obtain ⟨NN, hNN⟩ : ∃ N, N = NQ + 1 := ⟨_, rfl⟩
  have HNN : Hid ((nmV ns z1.ids).length = NQ) := hNQ.symm
  have HNE : Hid (NQ + 1 = NN) := hNN.symm
  have hNNb : NQ ≤ 100000 := by
   rw [hNQ, nmV_len]
   have h8 := HBB.out.2.2.2.2.ids_len
   have h9 := HBB.out.2.2.2.2.room
   have h10 := HBB.out.2.2.1.len.2
   omega
  obtain ⟨qa, qn, qc, hqv⟩ : ∃ a n c, nv1 = .slice a n c := by
   rcases HB4.out.row.2 with ⟨e1, -⟩ | ⟨q, cap, cur, e1, -⟩
   ·exact ⟨_, _, _, e1⟩
   ·exact ⟨_, _, _, e1⟩
  clear hNQ hNN
  go_wp2_with fail
  subst hqv
  refine Ag.wp_named fun a0 ha0 => ?_
  have o0 := Ag.old_at ha0 (t := 0) rfl
  have o7 := Ag.old_at ha0 (t := 7) rfl
  refine Ag.wp_region_lin (S := BT w4 w0.heap.size (.slice qa qn qc) (nmV ns z1.ids) m.nm bl NN) [7, 8] (fun _ => 0) (by kernel_rfl) (by kernel_rfl) (by rw [← ha0]; kernel_rfl) (BT.start (x := w4.drew) ⟨rfl, rfl, rfl, rfl⟩) ?_
  refine' Ag.LinAll.cons _ ?_ ?_ ?_
  rotate_left 1
  ·intro g L a x hLi haft hS hK
   have t0 := (hK.old 0 (by kernel_rfl)).trans o0
   (try dsimp only at t0)
   refine Ag.go_in (Ag.wanted_all rfl) ?_
   intro K hk
   clear haft hK hLi
   go_simp
   exact hk.out g x (fun _ _ => rfl) (hS.go rfl)
  ·intro i hi; exact Or.inl (fun _ _ _ => rfl)
  refine' Ag.LinAll.cons _ ?_ ?_ ?_
  rotate_left 1
  ·intro g L a x hLi haft hS hK
   have t0 := (hK.old 0 (by kernel_rfl)).trans o0
   (try dsimp only at t0)
   refine Ag.go_in (Ag.wanted_all rfl) ?_
   intro K hk
   clear haft hK hLi
   go_simp
   exact hk.out g x (fun _ _ => rfl) (hS.go rfl)
  ·intro i hi; exact Or.inl (fun _ _ _ => rfl)
  refine' Ag.LinAll.cons _ ?_ ?_ ?_
  rotate_left 1
  ·intro g L a x hLi haft hS hK
   have t51 := hK.new 1 0 _ 51 _ rfl rfl rfl (by kernel_rfl) (Ag.waits haft 1 (by kernel_rfl))
   (try dsimp only at t51)
   refine Ag.go_in (Ag.wanted_all rfl) ?_
   intro K hk
   clear haft hK hLi
   go_simp
   exact hk.out g x (fun _ _ => rfl) (hS.go rfl)
  ·intro i hi; exact Or.inl (fun _ _ _ => rfl)
  refine' Ag.LinAll.cons _ ?_ ?_ ?_
  rotate_left 1
  ·intro g L a x hLi haft hS hK
   have t52 := hK.new 2 0 _ 52 _ rfl rfl rfl (by kernel_rfl) (Ag.waits haft 2 (by kernel_rfl))
   (try dsimp only at t52)
   refine Ag.go_in (Ag.wanted_all rfl) ?_
   intro K hk
   clear haft hK hLi
   go_simp
   exact hk.out g x (fun _ _ => rfl) (hS.go rfl)
  ·intro i hi; exact Or.inl (fun _ _ _ => rfl)
  refine' Ag.LinAll.cons _ ?_ ?_ ?_
  rotate_left 1
  ·intro g L a x hLi haft hS hK
   have t53 := hK.new 3 0 _ 53 _ rfl rfl rfl (by kernel_rfl) (Ag.waits haft 3 (by kernel_rfl))
   (try dsimp only at t53)
   have cx := hS.cell (hS.off4 hLi) cb3
   refine Ag.go_in (Ag.wanted_all rfl) ?_
   intro K hk
   clear haft hK hLi
   go_simp
   exact hk.out g x (fun _ _ => rfl) (hS.go rfl)
  ·intro i hi; exact Or.inl (fun _ _ _ => rfl)
  refine' Ag.LinAll.cons _ ?_ ?_ ?_
  rotate_left 1
  ·intro g L a x hLi haft hS hK
   have t7 := (hK.old 7 (by kernel_rfl)).trans o7
   (try dsimp only at t7)
   refine Ag.go_in (Ag.wanted_all rfl) ?_
   intro K hk
   clear haft hK hLi
   go_simp
   exact hk.out g x (fun _ _ => rfl) (hS.go rfl)
  ·intro i hi; exact Or.inl (fun _ _ _ => rfl)
  refine' Ag.LinAll.cons _ ?_ ?_ ?_
  rotate_left 1
  ·intro g L a x hLi haft hS hK
   have t55 := hK.new 5 0 _ 55 _ rfl rfl rfl (by kernel_rfl) (Ag.waits haft 5 (by kernel_rfl))
   (try dsimp only at t55)
   have cx := hS.cell (b := w1.heap.size) (o := 10) (by cases e8 : L 8 with | false => rfl | true => (exfalso; have h7 := (hS.d1 e8).2; rw [Ag.waits (hK.cl 7 _ rfl h7) 6 (by kernel_rfl)] at hLi; cases hLi)) c10
   refine Ag.go_in (Ag.wanted_all rfl) ?_
   intro K hk
   clear haft hK hLi
   go_simp
   exact hk.out g x (fun _ _ => rfl) (hS.go rfl)
  ·intro i hi; exact Or.inl (fun _ _ _ => rfl)
  refine Ag.LinAll.cons (fun g => .slice (some ⟨g 7, 0, none⟩) 1 1) ?_ ?_ ?_
  ·intro g L a x hLi haft hS hK
   have t56 := hK.new 6 0 _ 56 _ rfl rfl rfl (by kernel_rfl) (Ag.waits haft 6 (by kernel_rfl))
   (try dsimp only at t56)
   refine Ag.go_in (Ag.wanted_all rfl) ?_
   intro K hk
   clear haft hK
   go_simp
   have hq := hk.out (Ag.updG g 7 x.heap.size) _ (Ag.updG_al (by rfl)) (hS.built hLi)
   dsimp only at hq
   rw [Ag.updG_eq] at hq
   exact hq
  ·intro i hi; simp only [List.mem_cons, List.not_mem_nil, or_false] at hi; rcases hi with rfl | rfl; exact Or.inr (by kernel_rfl); exact Or.inl (fun g g' h => by simp only [h 7 (by decide)])
  refine Ag.LinAll.cons (fun g => sl NN (g 8)) ?_ ?_ ?_
  ·intro g L a x hLi haft hS hK
   have t54 := hK.new 4 3 _ 54 _ rfl rfl rfl (by kernel_rfl) (Ag.waits haft 4 (by kernel_rfl))
   have t57 := hK.new 7 0 _ 57 _ rfl rfl rfl (by kernel_rfl) (Ag.waits haft 7 (by kernel_rfl))
   (try dsimp only at t54 t57)
   have hL4 := Ag.waits haft 4 (by kernel_rfl)
   have hL7 := Ag.waits haft 7 (by kernel_rfl)
   obtain ⟨hg7, y, hy, hxy⟩ := hS.e1 hL7 hLi
   have hss : Ss x w0.heap.size (.slice qa qn qc) (nmV ns z1.ids) := HB4.out.ss.kept (fun q e => by have hl := (HB4.out.row.lt q e).2; rw [hxy, heap_alloc_old y _ (by rw [hy.heap]; exact hl), hy.heap])
   have hnew : ∀ j u, [Value.string m.nm][j]? = some u → x.cell? ((⟨g 7, 0, none⟩ : Addr).add j) = some u := by rw [hg7, hxy, show w4.heap.size = y.heap.size by rw [hy.heap]]; exact cell_one_new y (.string m.nm) 9
   have hbx : w0.heap.size ≤ x.heap.size := by rw [hxy, size_alloc', hy.heap]; have := HB4.out.bw.size; omega
   obtain ⟨v', y2, hr, hS2, hgr, hat⟩ := hss.append (ty := 54) (c := 1) hbx (by rw [HNN.out]; exact hNNb) hnew
   refine Ag.go_in (Ag.wanted_all rfl) ?_
   intro K hk
   refine wp_append_run _ (.tmp 54) (.tmp 57) 54 rfl (Ag.eval_tmp t54) (Ag.eval_tmp t57) hr ?_
   obtain ⟨p, rfl⟩ := sl_own hS2.row (by simp)
   have hlen : (nmV ns z1.ids ++ [Value.string m.nm]).length = NN := by rw [List.length_append, HNN.out, List.length_singleton, HNE.out]
   rw [hlen] at hS2 hat ⊢
   have hq := hk.out (Ag.updG g 8 p) y2 (Ag.updG_al (by rfl)) (hS.app hL4 hL7 hLi hgr hS2 hat)
   dsimp only at hq
   rw [Ag.updG_eq] at hq
   exact hq
  ·intro i hi; simp only [List.mem_cons, List.not_mem_nil, or_false] at hi; rcases hi with rfl | rfl; exact Or.inl (fun g g' h => by simp only [h 8 (by decide)]); exact Or.inr (by kernel_rfl)
  refine' Ag.LinAll.cons _ ?_ ?_ ?_
  rotate_left 1
  ·intro g L a x hLi haft hS hK
   have t50 := hK.new 0 8 _ 50 _ rfl rfl rfl (by kernel_rfl) (Ag.waits haft 0 (by kernel_rfl))
   (try dsimp only at t50)
   refine Ag.go_in (Ag.wanted_all rfl) ?_
   intro K hk
   clear haft hK hLi
   go_simp
   exact hk.out g x (fun _ _ => rfl) (hS.go rfl)
  ·intro i hi; exact Or.inl (fun _ _ _ => rfl)
  refine' Ag.LinAll.cons _ ?_ ?_ ?_
  rotate_left 1
  ·intro g L a x hLi haft hS hK
   have t59 := hK.new 9 0 _ 59 _ rfl rfl rfl (by kernel_rfl) (Ag.waits haft 9 (by kernel_rfl))
   (try dsimp only at t59)
   refine Ag.go_in (Ag.wanted_all rfl) ?_
   intro K hk
   clear haft hK hLi
   go_simp
   exact hk.out g x (fun _ _ => rfl) (hS.go rfl)
  ·intro i hi; exact Or.inl (fun _ _ _ => rfl)
  refine Ag.LinAll.cons (fun _ => undef) ?_ ?_ ?_
  ·intro g L a x hLi haft hS hK
   have t58 := hK.new 8 2 _ 58 _ rfl rfl rfl (by kernel_rfl) (Ag.waits haft 8 (by kernel_rfl))
   have t60 := hK.new 10 0 _ 60 _ rfl rfl rfl (by kernel_rfl) (Ag.waits haft 10 (by kernel_rfl))
   (try dsimp only at t58 t60)
   have hL8 := Ag.waits haft 8 (by kernel_rfl)
   obtain ⟨y, o9, hy, hg9, hS9, hat9⟩ := hS.e2 hL8 hLi
   have hdx : x.heap[bl]? = w4.heap[bl]? := (hg9.block bl (by rw [size_alloc', hy.heap]; omega) (fun e => HB4.out.nrb e.symm)).trans ((heap_alloc_old y _ (by rw [hy.heap]; exact hbl4)).trans (by rw [hy.heap]))
   have cb : x.cell? ⟨bl, 3, none⟩ = some (.slice qa qn qc) := Ag.cell_of (hdx.trans HB4.out.hd) 3 rfl
   have fb : x.frozen? ⟨bl, 3, none⟩ = false := by simp [World.frozen?, hdx, HB4.out.hd]
   have hst := hS.stored hL8 hLi
   unfold sl at t58 hst
   refine Ag.go_in (Ag.wanted_all rfl) ?_
   intro K hk
   clear haft hK
   go_simp
   exact hk.out g _ (fun _ _ => rfl) hst
  ·intro i hi; exact Or.inl (fun _ _ _ => rfl)
  refine Ag.LinAll.nil fun g x hS => ?_
  subst ha0
  simp only [Act.put, List.setIfInBounds_toArray, List.set_cons_zero, List.set_cons_succ]
  clear o0 o7
  obtain ⟨y, o9, x9, hy, hgr, hSs, hat, hx9⟩ := hS.e3 (by decide)
  subst hx9
  have hyb : Below w4.heap.size w4 y := ⟨hy.os, hy.tape, hy.output, by rw [hy.heap]; exact Nat.le_refl _, fun q _ => by rw [hy.heap]⟩
  have hBy := HB4.out.below hyb
  obtain ⟨hBn, hCn⟩ := hBy.name (id := id) hgr (by rw [HID.out.2.1]; exact hSs) hat
  have HE : Hid (LI ns mo w0 w F bl gA tg mk nv z C R (k + 1) (x9.setCell ⟨bl, 3, none⟩ (sl NN (g 8)))) := by
   have hC34 : Ag.Ch w3 w4 (DB F3 bl mk (.slice qa qn qc)) (DB F3 bl mk (.slice qa qn qc)) := ⟨HG4.out.os, HG4.out.tape, HG4.out.output, HG4.out.size, fun q hq hn => HG4.out.block q hq (fun e => hn (Or.inr (Or.inr (Or.inl (Option.some.inj e))))), fun q hq => Or.inl hq⟩
   have hCC := ((((HBB.out.2.2.2.1.trans (Ag.Ch.of_below _ HBW.out)).trans (chD HC3.out (fun q e => HBH.out.1.bdD q (Or.inr e)))).trans hC34).trans (Ag.Ch.of_below _ hyb)).trans hCn
   refine ⟨F3, _, ⟨Ag.upK z1.f id IL, z1.ids ++ [id], IK⟩, HRR.out.1, hBn, HG3.out.kept (fun q hq hF => ?_), hCC, HRR.out.2, Nat.le_trans HUP.out HIP.out⟩
   rw [heap_setCell_other _ _ _ _ (show q ≠ bl from fun e => HB3.out.nbl (by rw [← e]; exact hF)), hgr.block q (by rw [size_alloc', hy.heap, HZ4.out]; omega) (fun e => HB3.out.nrw q e.symm hF), heap_alloc_old y _ (by rw [hy.heap, HZ4.out]; exact hq), hy.heap]
   exact HG4.out.block q hq (fun e => HB3.out.nmk (by rw [← Option.some.inj e]; exact hF))
  go_wp2_with fail
  exact ⟨⟨k + 1, by omega, by go_num, HE.out⟩, by simp [intOf]; omega⟩
end Go.Proofs.YtcahhahbcijkiaaGreat
