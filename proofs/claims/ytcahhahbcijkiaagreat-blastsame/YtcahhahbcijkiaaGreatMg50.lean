import Derived.Test.YtcahhahbcijkiaaGreatBM4
namespace Go.Proofs.YtcahhahbcijkiaaGreat
set_option maxHeartbeats 12800000
set_option maxRecDepth 100000
open Go.RowKit
set_option linter.unusedSimpArgs false
set_option linter.unusedVariables false
theorem liS_ext {ns : List Nd} {mo : Nat} {z : Zb} {id i : Int} {L : List Int} (h : z.f i = some L) : (liS ns mo z id).1.f i = some L := by
 unfold liS
 split
 ·exact h
 ·next hc =>
  split
  ·exact h
  ·show Ag.upK z.f id _ i = some L
   unfold Ag.upK
   rw [if_neg (fun e => hc (Or.inr (by rw [← e, h]; rfl)))]
   exact h
theorem liK_ext {ns : List Nd} {mo : Nat} : ∀ (C : List Int) {z : Zb} {i : Int} {L : List Int}, z.f i = some L → (liK ns mo z C).1.f i = some L
 | [], z, i, L, h => h
 | id :: C, z, i, L, h => by
  rw [liK]
  split
  ·exact liS_ext h
  ·exact liK_ext C (liS_ext h)
theorem liK_all {ns : List Nd} {mo : Nat} : ∀ (C : List Int) {z : Zb}, Zok ns mo z → (∀ x ∈ C, 1 ≤ x ∧ x ≤ (ns.length : Int)) → ((liK ns mo z C).2 = 0 → ∀ x ∈ C, (nAt ns x).op = 2 → ((liK ns mo z C).1.f x).isSome = true) ∧ ((liK ns mo z C).2 ≠ 0 → (liK ns mo z C).2 = 81 ∧ (liK ns mo z C).1.ks.length = mo + 1)
 | [], z, _, _ => ⟨(fun _ x hx => nomatch hx), fun e => absurd rfl e⟩
 | id :: C, z, hz, hi => by
  obtain ⟨h1, h2, h3⟩ := liS_ok hz (hi id (by simp)).1 (hi id (by simp)).2
  have ih := liK_all C h1 (fun x hx => hi x (by simp [hx]))
  rw [liK]
  by_cases he : (liS ns mo z id).2 = 0
  ·rw [if_neg (by rw [he]; simp)]
   refine ⟨fun e x hx ho => ?_, ih.2⟩
   rcases List.mem_cons.1 hx with q | q
   ·obtain ⟨L, hL⟩ := Option.isSome_iff_exists.1 (h3 he (by rw [← q]; exact ho))
    rw [q, liK_ext C hL]; rfl
   ·exact ih.1 e x q ho
  ·rw [if_pos he]
   exact ⟨fun e => absurd e he, fun _ => h2 he⟩
theorem cone_rises' {ns : List Nd} (hv : Inv ns) (id : Int) : (coneL ns id).Pairwise (· < ·) := by
 unfold coneL
 split
 ·rename_i hb
  have hb' : 1 ≤ id ∧ id ≤ (ns.length : Int) := by simpa [hasB] using hb
  rw [cone_list hv (by omega), List.pairwise_map]
  refine List.Pairwise.filter _ ?_
  refine (List.pairwise_lt_range' (s := 1) (n := id.toNat)).imp ?_
  intro a b h
  omega
 ·exact List.Pairwise.nil
theorem cone_shut' {ns : List Nd} (hv : Inv ns) {id x : Int} (hx : x ∈ coneL ns id) {a : Int} (ha : a = (nAt ns x).a ∨ a = (nAt ns x).b ∨ a = (nAt ns x).c) (h1 : 1 ≤ a) : a ∈ coneL ns id := by
 obtain ⟨c1, c2, c3⟩ := cone_in hv hx
 obtain ⟨i, rfl⟩ : ∃ i : Nat, id = (i : Int) := ⟨id.toNat, by omega⟩
 obtain ⟨j, rfl⟩ : ∃ j : Nat, x = (j : Int) := ⟨x.toNat, by omega⟩
 obtain ⟨b, rfl⟩ : ∃ b : Nat, a = (b : Int) := ⟨a.toNat, by omega⟩
 rw [mem_coneL hv (by omega) (by omega)] at hx ⊢
 have hn : ns[j - 1]? = some (nAt ns (j : Int)) := by
  unfold nAt
  rw [show ((j : Int) - 1).toNat = j - 1 by omega, List.getElem?_eq_getElem (by omega)]; rfl
 exact Rch.step hx (by omega) hn ha
theorem cone_self {ns : List Nd} (hv : Inv ns) {id : Int} (h1 : 1 ≤ id) (h2 : id ≤ (ns.length : Int)) : id ∈ coneL ns id := by
 obtain ⟨i, rfl⟩ : ∃ i : Nat, id = (i : Int) := ⟨id.toNat, by omega⟩
 exact (mem_coneL hv (by omega) (by omega)).2 Rch.here
def TEE (ns : List Nd) (mo : Nat) (w0 : W0) (w : World) (F : Nat → Prop) (bl g tg mk : Nat) (nv : Value) (z : Zb) (id : Int) (R : Zb × Int) (ev : Ending) (w' : World) : Prop :=
 ∃ u', ev = .returned (.tuple #[u', .int .i64 R.2]) ∧ (∃ a n c, u' = .slice a n c) ∧ ∃ F1 nv1, Bh ns w0 w' F1 bl g tg mk nv1 R.1.f R.1.ids ∧ Ag.Gr w' F1 g mo R.1.ks ∧ Ag.Ch w w' (DB F bl mk nv) (DB F1 bl mk nv1) ∧ Zok ns mo R.1 ∧ (R.2 = 0 → Ag.Wd w' (DB F1 bl mk nv1) u' (R.1.gf id) ∧ ∀ x ∈ coneL ns id, (R.1.f x).isSome = true) ∧ (R.2 ≠ 0 → coneL ns id ≠ [] → R.2 = 81 ∧ R.1.ks.length = mo + 1) ∧ z.ks.length ≤ R.1.ks.length
theorem clone_wd {w w' : World} {D : Nat → Prop} {L : List Int} {r cap : Nat} (hD : ∀ k, D k → k < w.heap.size) (hc : L.length ≤ cap) (hl : L.length ≤ 50000) (hr : w.heap.size ≤ r) {f : Nat → Value} (hrow : w'.rowIs r 3 cap f) (hf : ∀ x, x < L.length → f x = .int .i64 (L.getD x 0)) : Ag.Wd w' D (.slice (some ⟨r, 0, none⟩) L.length cap) L := by
 by_cases hL : L = []
 ·exact ⟨_, cap, rfl, hc, hl, (fun e => by cases e), Or.inl hL⟩
 ·obtain ⟨cs, h1, h2, h3⟩ := hrow
  have hrl : r < w'.heap.size := (Array.getElem?_eq_some_iff.1 h1).1
  refine ⟨_, cap, rfl, hc, hl, (fun e => by cases e), Or.inr ⟨r, 0, rfl, hrl, (fun e => by have := hD r e; omega), fun j hj => ?_⟩⟩
  rw [Nat.zero_add, ← hf j hj]
  exact Ag.cell_of h1 j (h3 j (by omega))
theorem term_any {ns : List Nd} {w0 : W0} {w : World} {F : Nat → Prop} {bl gA tg mk mo mi mv B mt : Nat} {v nv : Value} {z : Zb} (hT : Gt w0 B tg mi mv v mt ns) (hK : Nk ns) (hB : Bh ns w0 w F bl gA tg mk nv z.f z.ids) (hG : Ag.Gr w F gA mo z.ks) (hZ : Zok ns mo z) {id : Int} (hid : w64 id) :
  Calls Tryz.prog 11 #[.pointer (some ⟨bl, 0, none⟩), .int .i64 id] w (TEE ns mo w0 w F bl gA tg mk nv z id (teF ns mo z id)) := by
 have HT : Hid (Gt w0 B tg mi mv v mt ns) := hT
 have HNK : Hid (Nk ns) := hK
 have HBB : Hid (Bh ns w0 w F bl gA tg mk nv z.f z.ids ∧ Ag.Gr w F gA mo z.ks ∧ Zok ns mo z) := ⟨hB, hG, hZ⟩
 have HCO : Hid (Calls Tryz.prog 27 #[.pointer (some ⟨tg, 0, none⟩), .int .i64 id] w fun e w' => ∃ u, e = .returned u ∧ Rl w' w.heap.size u (coneL ns id) ∧ Below w.heap.size w w') := cone_any (hT.at hB.bw) id
 have hc0 : w.cell? ⟨bl, 0, none⟩ = some (.pointer (some ⟨tg, 0, none⟩)) := Ag.cell_of hB.hd 0 rfl
 have hbl := hB.lt
 have HIN : Hid (∀ x ∈ coneL ns id, 1 ≤ x ∧ x ≤ (ns.length : Int)) := fun x hx => by
  have := cone_in hT.gr.inv hx; omega
 have HSH : Hid ((coneL ns id).Pairwise (· < ·) ∧ (∀ x ∈ coneL ns id, ∀ a, (a = (nAt ns x).a ∨ a = (nAt ns x).b ∨ a = (nAt ns x).c) → 1 ≤ a → a ∈ coneL ns id)) := ⟨cone_rises' hT.gr.inv id, fun x hx a ha h1 => cone_shut' hT.gr.inv hx ha h1⟩
 obtain ⟨C, hC⟩ : ∃ C, C = coneL ns id := ⟨_, rfl⟩
 obtain ⟨R, hR⟩ : ∃ R, R = teF ns mo z id := ⟨_, rfl⟩
 rw [← hR]
 have HR : Hid (R = if C = [] then (z, 90) else if (liK ns mo z C).2 ≠ 0 then liK ns mo z C else lcK ns mo (liK ns mo z C).1 C) := by unfold Hid; rw [hR, hC]; rfl
 have HCI : Hid (C ≠ [] → id ∈ C) := fun h => by
  obtain ⟨x, hx⟩ := List.exists_mem_of_ne_nil C h
  rw [hC] at hx ⊢
  have := cone_in hT.gr.inv hx
  exact cone_self hT.gr.inv (by omega) (by omega)
 have HCE : Hid (C = coneL ns id) := hC
 rw [← hC] at HCO HIN HSH
 have hids := hid
 clear hT hK hB hG hZ hC hR
 go_enter Tryz.func11, Tryz.ntmps11
 go_wp2_with fail
 refine Calls.mono HCO.out ?_
 rintro ev w1 ⟨u1, rfl, hRl, hb1⟩
 obtain ⟨a1, c1, rfl, hc1, h51, hl1⟩ := hRl
 have HB1 : Hid (Below w.heap.size w w1) := hb1
 obtain ⟨n1, hn1⟩ : ∃ n, n = C.length := ⟨_, rfl⟩
 rw [← hn1] at hc1 h51 ⊢
 have HN1 : Hid (n1 = C.length) := hn1
 have HL1 : Hid (C = [] ∨ ∃ r, a1 = some ⟨r, 0, none⟩ ∧ w.heap.size ≤ r ∧ Li w1 r 0 C) := hl1
 clear hn1 hl1 hb1 HCO
 by_cases hC0 : n1 = 0
 ·have HE : Hid (TEE ns mo w0 w F bl gA tg mk nv z id R (.returned (.tuple #[.slice none 0 0, .int .i64 90])) w1) := by
   have hCn : C = [] := List.eq_nil_of_length_eq_zero (by rw [← HN1.out]; exact hC0)
   have hRe : R = (z, 90) := by rw [HR.out, if_pos hCn]
   unfold Hid TEE
   rw [hRe]
   exact ⟨_, rfl, ⟨_, _, _, rfl⟩, F, nv, HBB.out.1.below HB1.out, HBB.out.2.1.below HB1.out, Ag.Ch.of_below _ HB1.out, HBB.out.2.2, (fun e => by cases e), (fun _ hne => absurd hCn (by rw [HCE.out]; exact hne)), Nat.le_refl _⟩
  subst hC0
  go_wp2_with fail
  go_ret2
  exact HE.out
 have hC0I : ¬ (n1 : Int) = 0 := by omega
 have hCne : C ≠ [] := fun e => hC0 (by rw [HN1.out, e]; rfl)
 obtain ⟨r, hr1, hr2, hr3⟩ := HL1.out.resolve_left hCne
 subst hr1
 have hW1 : Ag.Wd w1 F (.slice (some ⟨r, 0, none⟩) n1 c1) C := by
  rw [HN1.out]
  refine ⟨_, c1, rfl, by rw [← HN1.out]; exact hc1, by rw [← HN1.out]; omega, (fun e => by cases e), Or.inr ⟨r, 0, rfl, ?_, (fun e => by have := HBB.out.1.bd r e; omega), hr3⟩⟩
  exact World.block_lt_of_cell? _ _ (hr3 0 (List.length_pos_iff.2 hCne))
 have hCl : C.length ≤ 5000 := by rw [← HN1.out]; exact h51
 have hso : ∀ n ∈ ns, n.s ≤ 1000 := fun n hn => by have := HNK.out.so n hn; omega
 have hnm : ∀ n ∈ ns, n.nm.size ≤ maxLen := fun n hn => by have := HNK.out.nm n hn; unfold maxLen; omega
 have HLI : Hid _ := lay_inputs (mo := mo) HT.out (HBB.out.1.below HB1.out) (HBB.out.2.1.below HB1.out) HBB.out.2.2 hW1 HIN.out hCl hso hnm
 have HWC : Hid (Ag.Wd w1 (DB F bl mk nv) (.slice (some ⟨r, 0, none⟩) n1 c1) C) := (HBB.out.1.below HB1.out).word hW1
 have HLA : Hid _ := liK_all (mo := mo) C HBB.out.2.2 HIN.out
 have HCL : Hid (C.length ≤ 5000 ∧ C ≠ []) := ⟨hCl, hCne⟩
 obtain ⟨Z1, hZ1⟩ : ∃ Z1, Z1 = liK ns mo z C := ⟨_, rfl⟩
 rw [← hZ1] at HLI HLA
 have HR2 : Hid (R = if Z1.2 ≠ 0 then Z1 else lcK ns mo Z1.1 C) := by unfold Hid; rw [HR.out, if_neg hCne, ← hZ1]
 clear hr2 hr3 hW1 hCl hso hnm hZ1 HR hCne HL1
 go_wp2_with fail
 refine Calls.mono HLI.out ?_
 rintro ev w2 ⟨rfl, F2, nv2, hB2, hG2, hC2, hZ2, hU2⟩
 have HU2 : Hid (z.ks.length ≤ Z1.1.ks.length) := hU2
 clear hU2
 have HB2 : Hid (Bh ns w0 w2 F2 bl gA tg mk nv2 Z1.1.f Z1.1.ids ∧ Ag.Gr w2 F2 gA mo Z1.1.ks ∧ Ag.Ch w1 w2 (DB F bl mk nv) (DB F2 bl mk nv2) ∧ Zok ns mo Z1.1) := ⟨hB2, hG2, hC2, hZ2⟩
 clear hB2 hG2 hC2 hZ2 HLI
 obtain ⟨z2, e2⟩ := Z1
 by_cases he2 : e2 = 0
 rotate_left
 ·have heb : (e2 != 0) = true := by simp [he2]
  have HE : Hid (TEE ns mo w0 w F bl gA tg mk nv z id R (.returned (.tuple #[.slice none 0 0, .int .i64 e2])) w2) := by
   have hRe : R = (z2, e2) := by rw [HR2.out, if_pos he2]
   unfold Hid TEE
   rw [hRe]
   exact ⟨_, rfl, ⟨_, _, _, rfl⟩, F2, nv2, HB2.out.1, HB2.out.2.1, (Ag.Ch.of_below _ HB1.out).trans HB2.out.2.2.1, HB2.out.2.2.2, fun e => absurd e he2, (fun _ _ => HLA.out.2 he2), HU2.out⟩
  go_wp2_with fail
  go_ret2
  exact HE.out
 subst he2
 have HLC : Hid _ := lay_circuits (mo := mo) HT.out HNK.out HB2.out.1 HB2.out.2.1 HB2.out.2.2.2 (HWC.out.ch HB2.out.2.2.1) HIN.out HCL.out.1 HSH.out.1 HSH.out.2 (HLA.out.1 rfl)
 obtain ⟨Z3, hZ3⟩ : ∃ Z3, Z3 = lcK ns mo z2 C := ⟨_, rfl⟩
 rw [← hZ3] at HLC
 have HR3 : Hid (R = Z3) := by unfold Hid; rw [HR2.out, if_neg (by simp), hZ3]
 clear hZ3
 go_wp2_with fail
 refine Calls.mono HLC.out ?_
 rintro ev w3 ⟨rfl, F3, hB3, hG3, hC3, hZ3, hA3, hE3, hX3, hI3, hU3⟩
 have HU3 : Hid (z.ks.length ≤ Z3.1.ks.length) := Nat.le_trans HU2.out hU3
 clear hU3
 have HB3 : Hid (Bh ns w0 w3 F3 bl gA tg mk nv2 Z3.1.f Z3.1.ids ∧ Ag.Gr w3 F3 gA mo Z3.1.ks ∧ Ag.Ch w2 w3 (DB F2 bl mk nv2) (DB F3 bl mk nv2) ∧ Zok ns mo Z3.1 ∧ (Z3.2 = 0 → ∀ x ∈ C, (Z3.1.f x).isSome = true) ∧ (Z3.2 ≠ 0 → Z3.2 = 81 ∧ Z3.1.ks.length = mo + 1)) := ⟨hB3, hG3, hC3, hZ3, hA3, hE3⟩
 clear hB3 hG3 hC3 hZ3 hA3 hE3 hX3 hI3 HLC
 obtain ⟨z3, e3⟩ := Z3
 have HCH : Hid (Ag.Ch w w3 (DB F bl mk nv) (DB F3 bl mk nv2)) := ((Ag.Ch.of_below _ HB1.out).trans HB2.out.2.2.1).trans HB3.out.2.2.1
 by_cases he3 : e3 = 0
 rotate_left
 ·have heb : (e3 != 0) = true := by simp [he3]
  have HE : Hid (TEE ns mo w0 w F bl gA tg mk nv z id R (.returned (.tuple #[.slice none 0 0, .int .i64 e3])) w3) := by
   unfold Hid TEE
   rw [HR3.out]
   exact ⟨_, rfl, ⟨_, _, _, rfl⟩, F3, nv2, HB3.out.1, HB3.out.2.1, HCH.out, HB3.out.2.2.2.1, fun e => absurd e he3, (fun _ _ => HB3.out.2.2.2.2.2 he3), HU3.out⟩
  go_wp2_with fail
  go_ret2
  exact HE.out
 subst he3
 obtain ⟨L3, hL3⟩ := Option.isSome_iff_exists.1 (HB3.out.2.2.2.2.1 rfl id (HCI.out HCL.out.2))
 obtain ⟨u3, hr3, hw3⟩ := HB3.out.1.kw.look hids
 have hLg : (z3.f id).getD [] = L3 := by rw [show z3.f id = some L3 from hL3]; rfl
 have hw3' : Ag.Wd w3 (DB F3 bl mk nv2) u3 L3 := by rw [← hLg]; exact hw3
 have HW3 : Hid (Ag.Wd w3 (DB F3 bl mk nv2) u3 L3) := hw3'
 have hLl : 0 < L3.length := by
  have := (HB3.out.2.2.2.1.wd id L3 hL3).2.2.1
  rw [this]; unfold wl; omega
 have HCL3 : Hid _ := Ag.wclone_any hw3' hLl
 have HLG : Hid (Zb.gf z3 id = L3) := hLg
 have hcm : w3.cell? ⟨bl, 2, none⟩ = some (.map (some mk)) := Ag.cell_of HB3.out.1.hd 2 rfl
 have hbl3 := HB3.out.1.lt
 obtain ⟨ua, un, uc, hue, hul⟩ : ∃ a n c, u3 = .slice a n c ∧ L3.length ≤ 50000 := by
  obtain ⟨a, c, e, -, h5⟩ := hw3'.sl
  exact ⟨a, _, c, e, h5⟩
 obtain ⟨n3, hn3⟩ : ∃ n, n = L3.length := ⟨_, rfl⟩
 rw [← hn3] at HCL3 hul
 have HN3 : Hid (n3 = L3.length) := hn3
 subst hue
 clear hw3 hw3' hLg hL3 hLl hn3
 go_wp2_with fail
 refine Calls.mono HCL3.out ?_
 rintro ev w4 ⟨r4, cap, rfl, hcap, hr4, ⟨f4, hrow, hf4⟩, hb4⟩
 have HE : Hid (TEE ns mo w0 w F bl gA tg mk nv z id R (.returned (.tuple #[.slice (some ⟨r4, 0, none⟩) n3 cap, .int .i64 0])) w4) := by
  unfold Hid TEE
  rw [HR3.out]
  refine ⟨_, rfl, ⟨_, _, _, rfl⟩, F3, nv2, HB3.out.1.below hb4, HB3.out.2.1.below hb4, HCH.out.trans (Ag.Ch.of_below _ hb4), HB3.out.2.2.2.1, fun _ => ⟨?_, fun x hx => HB3.out.2.2.2.2.1 (by first | rfl | trivial) x (by rw [HCE.out]; exact hx)⟩, (fun e => absurd rfl e), HU3.out⟩
  show Ag.Wd w4 (DB F3 bl mk nv2) (.slice (some ⟨r4, 0, none⟩) n3 cap) (Zb.gf z3 id)
  rw [HLG.out]
  rw [HN3.out] at hcap hf4 ⊢
  exact clone_wd HB3.out.1.bdD hcap (by rw [← HN3.out]; exact hul) hr4 hrow hf4
 clear hcap hr4 hrow hf4 hb4
 go_wp2_with fail
 go_ret2
 exact HE.out
theorem teF_again {ns : List Nd} {mo : Nat} {z : Zb} {id : Int} (hne : coneL ns id ≠ []) (h : ∀ x ∈ coneL ns id, (z.f x).isSome = true) : teF ns mo z id = (z, 0) := by
 have h1 : ∀ C : List Int, (∀ x ∈ C, (z.f x).isSome = true) → liK ns mo z C = (z, 0) ∧ lcK ns mo z C = (z, 0) := by
  intro C
  induction C with
  | nil => intro _; exact ⟨rfl, rfl⟩
  | cons x C ih =>
   intro hc
   obtain ⟨i1, i2⟩ := ih (fun y hy => hc y (by simp [hy]))
   have hx := hc x (by simp)
   have e1 : liS ns mo z x = (z, 0) := by unfold liS; rw [if_pos (Or.inr hx)]
   have e2 : lcS ns mo z x = (z, 0) := by unfold lcS; rw [if_pos hx]
   refine ⟨?_, ?_⟩
   ·rw [liK, e1, if_neg (by simp)]; exact i1
   ·rw [lcK, e2, if_neg (by simp)]; exact i2
 obtain ⟨h2, h3⟩ := h1 _ h
 unfold teF
 rw [if_neg hne, h2, if_neg (by simp)]
 exact h3
theorem newMap (w : World) : (Instr.makeMap 76 none).run Tryz.prog w = .ok (.map (some w.heap.size)) (w.alloc (.map #[] 0)) := by kernel_rfl
theorem bnew_any {ns : List Nd} {w0 : W0} {w : World} {F : Nat → Prop} {gA tg mo : Nat} {ks : List Ag.Kd} (hb : Bel w0 w) (hG : Ag.Gr w F gA mo ks) (hbd : ∀ k, F k → k < w.heap.size) (hlo : ∀ k, F k → w0.T k ∨ w0.heap.size ≤ k) :
  Calls Tryz.prog 10 #[.pointer (some ⟨tg, 0, none⟩), .pointer (some ⟨gA, 0, none⟩)] w fun ev w' => ev = .returned (.pointer (some ⟨w.heap.size + 1, 0, none⟩)) ∧ Bh ns w0 w' F (w.heap.size + 1) gA tg w.heap.size (.slice none 0 0) (fun _ => none) [] ∧ Ag.Gr w' F gA mo ks ∧ Below w.heap.size w w' := by
 have HK : Hid (Bh ns w0 ((w.alloc (.map #[] 0)).alloc (.cells #[.pointer (some ⟨tg, 0, none⟩), .pointer (some ⟨gA, 0, none⟩), .map (some w.heap.size), .slice none 0 0] 78)) F (w.heap.size + 1) gA tg w.heap.size (.slice none 0 0) (fun _ => none) [] ∧ Below w.heap.size w ((w.alloc (.map #[] 0)).alloc (.cells #[.pointer (some ⟨tg, 0, none⟩), .pointer (some ⟨gA, 0, none⟩), .map (some w.heap.size), .slice none 0 0] 78))) := by
  have hsz : (w.alloc (.map #[] 0)).heap.size = w.heap.size + 1 := by simp
  have hB2 : Below w.heap.size w ((w.alloc (.map #[] 0)).alloc (.cells #[.pointer (some ⟨tg, 0, none⟩), .pointer (some ⟨gA, 0, none⟩), .map (some w.heap.size), .slice none 0 0] 78)) := by go_grown
  have hnew := heap_alloc_new (w.alloc (.map #[] 0)) (.cells #[.pointer (some ⟨tg, 0, none⟩), .pointer (some ⟨gA, 0, none⟩), .map (some w.heap.size), .slice none 0 0] 78)
  rw [hsz] at hnew
  have hz0 := hb.size
  refine ⟨⟨hnew, ?_, Ss.nil _ _, (fun e => by have := hbd _ e; omega), (fun e => by have := hbd _ e; omega), (fun q e => by cases e), fun k hk => by have := hbd k hk; simp; omega, hlo, by omega, by omega, hb.step hB2.os hB2.tape hB2.output hB2.size (fun k a _ => hB2.block k (by omega))⟩, hB2⟩
  exact (Ag.Kw.made w _).kept (heap_alloc_old _ _ (by rw [hsz]; omega)) (fun u L hu => hu.below (by go_grown))
 have HG : Hid (Ag.Gr w F gA mo ks) := hG
 have hm := newMap w
 clear hb hG hbd hlo
 go_enter Tryz.func10, Tryz.ntmps10
 go_wp2_with fail
 go_ret
 exact ⟨by simp, HK.out.1, HG.out.below HK.out.2, HK.out.2⟩
theorem bvar_any {ns : List Nd} {w0 : W0} {w : World} {F : Nat → Prop} {bl gA tg mk mo mi mv B mt : Nat} {v nv : Value} {z : Zb} (hT : Gt w0 B tg mi mv v mt ns) (hB : Bh ns w0 w F bl gA tg mk nv z.f z.ids) (hZ : Zok ns mo z) {s : ByteArray} (hs : s.size ≤ maxLen) {id : Int} {L : List Int} (hid : varAt ns s = id) (h0 : 1 ≤ id) (hw : w64 id) (hL : z.f id = some L) :
  Calls Tryz.prog 21 #[.pointer (some ⟨bl, 0, none⟩), .string s] w fun ev w' => ∃ u, ev = .returned (.tuple #[u, .bool true]) ∧ (∃ a c, u = .slice a L.length c) ∧ Ag.Wd w' (DB F bl mk nv) u L ∧ Below w.heap.size w w' := by
 have HV : Hid (Calls Tryz.prog 22 #[.pointer (some ⟨tg, 0, none⟩), .string s] w fun e w' => e = .returned (.tuple #[.int .i64 id, .bool true]) ∧ w' = w) := by
  have := var_any (hT.at hB.bw) hs
  rw [hid, show (!decide (id = 0)) = true by simp; omega] at this
  exact this
 obtain ⟨u3, hr3, hw3⟩ := hB.kw.look2 hw
 rw [hL] at hr3 hw3
 have hw3' : Ag.Wd w (DB F bl mk nv) u3 L := hw3
 have hLl : 0 < L.length := by
  have := (hZ.wd id L hL).2.2.1
  rw [this]; unfold wl; omega
 have HC3 : Hid _ := Ag.wclone_any hw3' hLl
 have hc0 : w.cell? ⟨bl, 0, none⟩ = some (.pointer (some ⟨tg, 0, none⟩)) := Ag.cell_of hB.hd 0 rfl
 have hcm : w.cell? ⟨bl, 2, none⟩ = some (.map (some mk)) := Ag.cell_of hB.hd 2 rfl
 have hbl := hB.lt
 have HBD : Hid (∀ k, DB F bl mk nv k → k < w.heap.size) := hB.bdD
 obtain ⟨ua, uc, hue, -, hul⟩ := hw3'.sl
 obtain ⟨n3, hn3⟩ : ∃ n, n = L.length := ⟨_, rfl⟩
 rw [← hn3] at HC3 hul hue
 have HN3 : Hid (n3 = L.length) := hn3
 subst hue
 simp only [Option.isSome_some] at hr3
 clear hT hB hZ hw3 hw3' hLl hn3 hL hid
 go_enter Tryz.func21, Tryz.ntmps21
 go_wp2_with fail
 refine Calls.mono HV.out ?_
 rintro ev w1 ⟨rfl, hw1⟩
 obtain rfl : w = w1 := hw1.symm
 clear hw1 HV
 go_wp2_with fail
 refine Calls.mono HC3.out ?_
 rintro ev w4 ⟨r4, cap, rfl, hcap, hr4, ⟨f4, hrow, hf4⟩, hb4⟩
 have HE : Hid (Ag.Wd w4 (DB F bl mk nv) (.slice (some ⟨r4, 0, none⟩) n3 cap) L ∧ Below w.heap.size w w4) := by
  refine ⟨?_, hb4⟩
  rw [HN3.out] at hcap hf4 hul ⊢
  exact clone_wd HBD.out hcap hul hr4 hrow hf4
 clear hcap hr4 hrow hf4 hb4
 go_wp2_with fail
 go_ret2
 exact ⟨.slice (some ⟨r4, 0, none⟩) n3 cap, rfl, ⟨some ⟨r4, 0, none⟩, cap, by rw [← HN3.out]⟩, HE.out.1, HE.out.2⟩
theorem snil_eq (w : World) : (binOp .eql 54 (.slice none 0 0) (.slice none 0 0)).run Tryz.prog w = .ok (.bool true) w := by kernel_rfl
theorem snil_ne (w : World) (r n c : Nat) : (binOp .eql 54 (.slice (some ⟨r, 0, none⟩) n c) (.slice none 0 0)).run Tryz.prog w = .ok (.bool false) w := by kernel_rfl
theorem sempty_row (w : World) : (w.alloc (.cells #[] 9)).ownsRow w.heap.size 9 1 (.slice (some ⟨w.heap.size, 0, none⟩) 0 0) 0 [] := ⟨rfl, Or.inr ⟨w.heap.size, 0, #[], rfl, Nat.le_refl _, heap_alloc_new w _, Nat.le_refl _, by decide, rfl, rfl⟩⟩
theorem sclone_any {w : World} {base : Nat} {v : Value} {xs : List Value} (h : w.ownsRow base 9 1 v xs.length xs) (h1 : ∀ x ∈ xs, x.oneCell' = true) (hl : xs.length ≤ 100000) :
  Calls Tryz.prog 38 #[v] w fun e w' => ∃ u, e = .returned u ∧ w'.ownsRow w.heap.size 9 1 u xs.length xs ∧ Below w.heap.size w w' := by
 rcases h.2 with ⟨rfl, hn⟩ | ⟨r, cap, cur, rfl, hb, hg, hc, _, hs, ht⟩
 ·have hq := snil_eq w
  have HX : Hid (xs = []) := List.eq_nil_of_length_eq_zero hn
  clear h h1 hl hn
  go_enter Tryz.func38, Tryz.ntmps38
  go_wp2_with fail
  go_ret
  refine ⟨_, rfl, ?_, Below.refl _ _⟩
  rw [HX.out]
  exact World.ownsRow_nil _ _ _ _
 ·obtain ⟨t0, ht0, hz0, hz1, hz2⟩ := info_any infoStr
  have HI0 : Hid (Tryz.prog.info? 9 = some t0 ∧ t0.zero = some (.string ⟨#[]⟩) ∧ t0.size = 1 ∧ t0.bytes = 16) := ⟨ht0, hz0, hz1, hz2⟩
  have HNW : Hid (∀ o j u, xs[j]? = some u → (w.alloc o).cell? ((⟨r, 0, none⟩ : Addr).add j) = some u) := fun o j u hj => by
   have hc2 := h.cells (g := r) rfl j u hj
   rw [World.cell?_of_block (w := w) (heap_alloc_old w o (World.block_lt_of_cell? _ _ hc2)), hc2]
  have H1 : Hid _ := h1
  obtain ⟨n, en⟩ : ∃ n, n = xs.length := ⟨_, rfl⟩
  have HN : Hid (n = xs.length) := en
  rw [← en] at hl ⊢
  have hq := snil_ne w r n cap
  clear h h1 ht0 hz0 hz1 hz2 en hb hg hc hs ht
  go_enter Tryz.func38, Tryz.ntmps38
  go_wp2_with (at_builtin; refine wpList_append_own_at _ rfl _ _ 54 rfl w.heap.size 9 t0 (.string ⟨#[]⟩) 1 16 underStrs HI0.out.1 HI0.out.2.1 HI0.out.2.2.1 HI0.out.2.2.2 rfl (by decide) _ _ _ rfl (sempty_row w) ⟨r, 0, none⟩ n cap xs rfl (by rw [HN.out, Nat.mul_one]) (HNW.out _) H1.out (by unfold maxLen; omega) (by omega) (by simp) ?_; intro v1 w1 hown hgrow hnil hat)
  have HO : Hid _ := hown
  have hb : Below w.heap.size w w1 := Ag.low_grown (Below.refl _ _) (Nat.le_refl _) hgrow (fun q hq => by cases hq; exact Nat.le_refl _)
  clear hown hgrow hnil hat
  go_wp2_with fail
  go_ret
  refine ⟨_, rfl, ?_, hb⟩
  have := HO.out
  rw [Nat.zero_add, List.nil_append] at this
  exact this
theorem bnames_any {ns : List Nd} {w0 : W0} {w : World} {F : Nat → Prop} {bl gA tg mk : Nat} {nv : Value} {f : Int → Option (List Int)} {ids : List Int} (hB : Bh ns w0 w F bl gA tg mk nv f ids) (hl : ids.length ≤ 100000) :
  Calls Tryz.prog 20 #[.pointer (some ⟨bl, 0, none⟩)] w fun e w' => ∃ u, e = .returned u ∧ w'.ownsRow w.heap.size 9 1 u ids.length (nmV ns ids) ∧ Below w.heap.size w w' := by
 have HC : Hid _ := sclone_any hB.row (fun x hx => by obtain ⟨i, -, rfl⟩ := List.mem_map.1 hx; rfl) (by rw [nmV_len]; exact hl)
 rw [nmV_len] at HC
 have c3 : w.cell? ⟨bl, 3, none⟩ = some nv := Ag.cell_of hB.hd 3 rfl
 have hbl := hB.lt
 obtain ⟨a, n, c, rfl⟩ : ∃ a n c, nv = .slice a n c := by
  rcases hB.row.2 with ⟨e1, -⟩ | ⟨q, cap, cur, e1, -⟩
  ·exact ⟨_, _, _, e1⟩
  ·exact ⟨_, _, _, e1⟩
 clear hB
 go_enter Tryz.func20, Tryz.ntmps20
 go_wp2_with fail
 refine Calls.mono HC.out ?_
 rintro e w1 ⟨u, rfl, hI, hb⟩
 have HI : Hid _ := hI
 have HB : Hid (Below w.heap.size w w1) := hb
 obtain ⟨a1, n1, c1, rfl⟩ : ∃ a n c, u = .slice a n c := by
  rcases hI.2 with ⟨e1, -⟩ | ⟨q, cap, cur, e1, -⟩
  ·exact ⟨_, _, _, e1⟩
  ·exact ⟨_, _, _, e1⟩
 clear hI hb
 go_wp2_with fail
 go_ret
 exact ⟨_, rfl, HI.out, HB.out⟩
theorem nk_nil : Nk [] := ⟨(fun i n h => by simp at h), (fun _ h => nomatch h), (fun _ h => nomatch h), (fun _ h => nomatch h), (fun _ h => nomatch h)⟩
theorem nk_mkd {mo : Nat} {ns ns' : List Nd} {n : Nd} {id er : Int} (hv : Inv ns) (h : Nk ns) (ho : Ok n) (hn : n.nm.size ≤ 60) (hp : n.p ≤ 24) (hM : Mkd mo ns n id er ns') : Nk ns' ∧ ns'.length ≤ ns.length + 1 := by
 refine ⟨?_, by cases hM <;> simp⟩
 cases hM with
 | err _ _ => exact h
 | old _ _ => exact h
 | full _ _ _ => exact h
 | @new s hs hno _ =>
  have hs2 := (inv_snoc hv hs hno).sorts (n.wi s) (by simp)
  refine ⟨fun i m hm => ?_, fun m hm => ?_, fun m hm => ?_, fun m hm => ?_, fun m hm => ?_⟩
  ·by_cases hi : i < ns.length
   ·rw [List.getElem?_append_left hi] at hm
    obtain ⟨m0, e1, e2⟩ := h.nd i m hm
    refine ⟨m0, e1, ?_⟩
    rw [List.take_append_of_le_length (by omega)]
    exact e2
   ·have hl := (List.getElem?_eq_some_iff.1 hm).1
    rw [List.length_append, List.length_singleton] at hl
    have hie : i = ns.length := by omega
    subst hie
    rw [List.getElem?_append_right (Nat.le_refl _), Nat.sub_self] at hm
    obtain rfl : n.wi s = m := by simpa using hm
    exact ⟨n, rfl, by rw [List.take_left']; exact hs; rfl⟩
  ·rcases List.mem_append.1 hm with q | q
   ·exact h.ok m q
   ·rw [List.mem_singleton.1 q]
    exact ⟨(by obtain ⟨f1, f2, f3, f4, f5⟩ := ho.fi; exact ⟨f1, f2, f3, f4, f5⟩), ho.op, ⟨by have : 0 ≤ s := hs2.1; show _ ≤ s; omega, by have : s ≤ 128 := hs2.2; show s ≤ _; omega⟩, ho.a, ho.b, ho.c, ho.p, ho.q, ho.w⟩
  ·rcases List.mem_append.1 hm with q | q
   ·exact h.p m q
   ·rw [List.mem_singleton.1 q]; exact hp
  ·rcases List.mem_append.1 hm with q | q
   ·exact h.nm m q
   ·rw [List.mem_singleton.1 q]; exact hn
  ·rcases List.mem_append.1 hm with q | q
   ·exact h.so m q
   ·rw [List.mem_singleton.1 q]; exact hs2.2
theorem chg_below {w0 w w' : World} {B g mi mv mo : Nat} {v : Value} {ns : List Nd} (hb : Below B w0 w) (h : Gr w B g mi mv v mo ns) (hB : B ≤ w.heap.size) (hC : Chg w w' g mi mv v) : Below B w0 w' :=
 hb.trans ⟨hC.os, hC.tape, hC.output, hC.size, fun k hk => hC.block k (by omega) (by have := h.bg; omega) (by have := h.bi; omega) (by have := h.bv; omega) (fun e => by have := (h.row.lt k e.symm).1; omega)⟩
def MdE (w : World) (ev : Ending) (w' : World) : Prop :=
 (∃ p, ev = .returned (.tuple #[.pointer p, .bool false]) ∧ Below w.heap.size w w') ∨ ∃ g mi mv v ns, ev = .returned (.tuple #[.pointer (some ⟨g, 0, none⟩), .bool true]) ∧ Gr w' w.heap.size g mi mv v 4096 ns ∧ Nk ns ∧ 0 < ns.length ∧ ns.length ≤ 40 ∧ (∀ n ∈ ns, n.s ≤ 40) ∧ Below w.heap.size w w'
theorem made9_any {a : Option Addr} {c : Nat} {l : List Nd} (w : World) (hL : La w a l) (hok : ∀ n ∈ l, Ok n) (hmx : l.length ≤ maxLen) :
  Calls Tryz.prog 6 #[.slice a l.length c] w (MdE w) := by
 obtain ⟨n, hn⟩ : ∃ n, n = l.length := ⟨_, rfl⟩
 have hmxI : (n : Int) ≤ 9223372036854775807 := by unfold maxLen at hmx; omega
 rw [← hn]
 by_cases h40 : n ≤ 40
 rotate_left
 ·have h40I : (40 : Int) < (n : Int) := by omega
  clear hL hok hmx hn
  go_enter Tryz.func6, Tryz.ntmps6
  go_wp2_with fail
  go_ret2
  exact Or.inl ⟨none, rfl, Below.refl _ _⟩
 have HN : Hid (n = l.length) := hn
 have HNW : Hid (Calls Tryz.prog 24 #[.int .i64 4096] w fun e w' => e = .returned (.pointer (some ⟨w.heap.size + 2, 0, none⟩)) ∧ Below w.heap.size w w' ∧ Gr w' w.heap.size (w.heap.size + 2) w.heap.size (w.heap.size + 1) (.slice none 0 0) 4096 []) := gnew_any 4096 w
 have HLa : Hid _ := hL
 have HOK : Hid (∀ n ∈ l, Ok n) := hok
 have h40I : (n : Int) ≤ 40 := by omega
 obtain ⟨B, hB⟩ : ∃ B, B = w.heap.size := ⟨_, rfl⟩
 obtain ⟨gB, hgB⟩ : ∃ g, g = B + 2 := ⟨_, rfl⟩
 obtain ⟨mv, hmv⟩ : ∃ g, g = B + 1 := ⟨_, rfl⟩
 rw [← hB] at HNW
 rw [← hgB, ← hmv] at HNW
 have HBB : Hid (B = w.heap.size) := hB
 clear hn hL hok hmx hB hgB hmv
 go_enter Tryz.func6, Tryz.ntmps6
 go_wp2_with fail
 refine Calls.mono HNW.out ?_
 rintro e wb ⟨rfl, hbb, hG⟩
 have HST : Hid (Gr wb B gB B mv (.slice none 0 0) 4096 [] ∧ Below B w wb) := ⟨hG, hbb⟩
 clear hG hbb HNW
 go_wp2_with fail
 go_loopw [5] (fun i wr => ∃ k : Nat, k ≤ n ∧ i = .int .i64 (k : Int) ∧ Hid (∃ v ns, Gr wr B gB B mv v 4096 ns ∧ Below B w wr ∧ Nk ns ∧ ns.length ≤ k)) (fun i wr => n - (intOf i).toNat)
 case atStart => exact ⟨0, Nat.zero_le _, rfl, _, _, HST.out.1, HST.out.2, nk_nil, Nat.le_refl _⟩
 case round =>
  obtain ⟨k, hk, rfl, hH⟩ := hrel
  obtain ⟨v, ns, hG, hbl, hNk, hnk⟩ := hH.out
  have HG : Hid (Gr wr B gB B mv v 4096 ns) := hG
  have HBL : Hid (Below B w wr) := hbl
  have HNK : Hid (Nk ns) := hNk
  clear hH
  by_cases hlt : k < n
  ·obtain ⟨m, hm⟩ : ∃ m, l[k]? = some m := ⟨_, List.getElem?_eq_getElem (by rw [← HN.out]; exact hlt)⟩
   obtain ⟨gl, o, rfl, hgl, hLn⟩ : ∃ gl o, a = some ⟨gl, o, none⟩ ∧ gl < w.heap.size ∧ Ln w gl o l := by
    rcases HLa.out with e | h
    ·rw [e] at hm; simp at hm
    ·exact h
   have hc := hLn k m hm
   have hbl2 : Below w.heap.size w wr := by rw [← HBB.out]; exact hbl
   have d10 : wr.cell? ⟨gl, o + k * 11 + 10, none⟩ = some (.string m.nm) := bel_cell hbl2 hgl (hc 10 _ rfl)
   have d1 : wr.cell? ⟨gl, o + k * 11 + 1, none⟩ = some (.int .i64 m.s) := bel_cell hbl2 hgl (hc 1 _ rfl)
   have d5 : wr.cell? ⟨gl, o + k * 11 + 5, none⟩ = some (.int .i64 m.p) := bel_cell hbl2 hgl (hc 5 _ rfl)
   have hlt' : (k : Int) < (n : Int) := by omega
   by_cases hnm : m.nm.size ≤ 60
   rotate_left
   ·have hnmI : (60 : Int) < (m.nm.size : Int) := by omega
    clear hc hLn hm hbl2 hG hbl hNk
    go_wp2_with fail
    go_ret2
    exact Or.inl ⟨none, rfl, by rw [← HBB.out]; exact HBL.out⟩
   have hnmI : ¬ (60 : Int) < (m.nm.size : Int) := by omega
   by_cases hms : m.s ≤ 24
   rotate_left
   ·have hmsI : (24 : Int) < m.s := by omega
    clear hc hLn hm hbl2 hG hbl hNk
    go_wp2_with fail
    go_ret2
    exact Or.inl ⟨none, rfl, by rw [← HBB.out]; exact HBL.out⟩
   have hmsI : ¬ (24 : Int) < m.s := by omega
   by_cases hmp : m.p ≤ 24
   rotate_left
   ·have hmpI : (24 : Int) < m.p := by omega
    clear hc hLn hm hbl2 hG hbl hNk
    go_wp2_with fail
    go_ret2
    exact Or.inl ⟨none, rfl, by rw [← HBB.out]; exact HBL.out⟩
   have hmpI : ¬ (24 : Int) < m.p := by omega
   have d0 : wr.cell? ⟨gl, o + k * 11, none⟩ = some (.int .i64 m.op) := bel_cell hbl2 hgl (hc 0 _ rfl)
   have d2 : wr.cell? ⟨gl, o + k * 11 + 2, none⟩ = some (.int .i64 m.a) := bel_cell hbl2 hgl (hc 2 _ rfl)
   have d3 : wr.cell? ⟨gl, o + k * 11 + 3, none⟩ = some (.int .i64 m.b) := bel_cell hbl2 hgl (hc 3 _ rfl)
   have d4 : wr.cell? ⟨gl, o + k * 11 + 4, none⟩ = some (.int .i64 m.c) := bel_cell hbl2 hgl (hc 4 _ rfl)
   have d6 : wr.cell? ⟨gl, o + k * 11 + 6, none⟩ = some (.int .i64 m.q) := bel_cell hbl2 hgl (hc 6 _ rfl)
   have d7 : wr.cell? ⟨gl, o + k * 11 + 7, none⟩ = some (.int .i64 m.w) := bel_cell hbl2 hgl (hc 7 _ rfl)
   have d8 : wr.cell? ⟨gl, o + k * 11 + 8, none⟩ = some (.int .u64 m.lo) := bel_cell hbl2 hgl (hc 8 _ rfl)
   have d9 : wr.cell? ⟨gl, o + k * 11 + 9, none⟩ = some (.int .u64 m.hi) := bel_cell hbl2 hgl (hc 9 _ rfl)
   obtain ⟨id', er, ns', hM⟩ := mkd_any 4096 ns m HG.out.room
   have hOm := HOK.out m (List.mem_of_getElem? hm)
   have hBs : B ≤ wr.heap.size := by have := HG.out.lt; have := HG.out.bg; omega
   have HMK : Hid _ := mk_any HG.out hOm hM hBs
   obtain ⟨hNk', hln'⟩ := nk_mkd HG.out.inv HNK.out hOm hnm hmp hM
   have HNK' : Hid (Nk ns') := hNk'
   clear hc hLn hm hM hOm hNk' hbl2 hG hbl hNk
   go_wp2_with fail
   refine Calls.mono HMK.out ?_
   rintro e w2 ⟨rfl, v', hG', hC, -⟩
   have HE : Hid (∃ v ns, Gr w2 B gB B mv v 4096 ns ∧ Below B w w2 ∧ Nk ns ∧ ns.length ≤ k + 1) := ⟨v', ns', hG', chg_below HBL.out HG.out hBs hC, HNK'.out, by omega⟩
   clear hG' hC HMK d0 d1 d2 d3 d4 d5 d6 d7 d8 d9 d10
   go_wp2_with fail
   exact ⟨⟨k + 1, by omega, by go_num, HE.out⟩, by simp [intOf]; omega⟩
  ·obtain rfl : k = n := by omega
   have hlt' : ¬ (k : Int) < (k : Int) := by omega
   obtain ⟨N, hN⟩ : ∃ N, N = ns.length := ⟨_, rfl⟩
   have HNN : Hid (N = ns.length) := hN
   have hN40 : N ≤ 40 := by omega
   obtain ⟨w5, hw5⟩ : ∃ w5, w5 = wr := ⟨_, rfl⟩
   subst hw5
   clear hG hbl hNk hnk hN
   go_wp2_with fail
   go_loopw [6] (fun i wr => ∃ j : Nat, j ≤ N ∧ i = .int .i64 ((j : Int) + 1) ∧ Hid (Gr wr B gB B mv v 4096 ns ∧ Below B w wr ∧ ∀ (t : Nat) m, t < j → ns[t]? = some m → m.s ≤ 40)) (fun i wr => N + 1 - (intOf i).toNat)
   case atStart => exact ⟨0, Nat.zero_le _, rfl, HG.out, HBL.out, fun t m ht => by omega⟩
   case round =>
    obtain ⟨j, hj, rfl, hJ⟩ := hrel
    have HLN : Hid (∀ wx, Gr wx B gB B mv v 4096 ns → Calls Tryz.prog 8 #[.pointer (some ⟨gB, 0, none⟩)] wx fun e w' => e = .returned (.int .i64 (N : Int)) ∧ w' = wx) := fun wx hx => by rw [HNN.out]; exact glen_any hx
    by_cases hjN : j < N
    ·have hjI : (j : Int) + 1 ≤ (N : Int) := by omega
     obtain ⟨m, hm⟩ : ∃ m, ns[j]? = some m := ⟨_, List.getElem?_eq_getElem (by rw [← HNN.out]; exact hjN)⟩
     have HNY : Hid _ := node_yes hJ.out.1 hm
     have HMS : Hid (ns[j]? = some m) := hm
     clear hm
     go_wp2_with fail
     refine Calls.mono (HLN.out wr hJ.out.1) ?_
     rintro e w6 ⟨rfl, hw6⟩
     obtain rfl : wr = w6 := hw6.symm
     clear hw6
     go_wp2_with fail
     refine Calls.mono HNY.out ?_
     rintro e w7 ⟨rfl, hb7⟩
     obtain ⟨w8, hw8⟩ : ∃ w8, w8 = w7.alloc (.cells #[.int .i64 m.op, .int .i64 m.s, .int .i64 m.a, .int .i64 m.b, .int .i64 m.c, .int .i64 m.p, .int .i64 m.q, .int .i64 m.w, .int .u64 m.lo, .int .u64 m.hi, .string m.nm] 50) := ⟨_, rfl⟩
     have hb8 : Below wr.heap.size wr w8 := by
      have : Below w7.heap.size w7 w8 := by rw [hw8]; go_grown
      exact hb7.trans (this.mono hb7.size)
     have HE8 : Hid (Gr w8 B gB B mv v 4096 ns ∧ Below B w w8) := ⟨hJ.out.1.below hb8, hJ.out.2.1.trans (hb8.mono (by have := hJ.out.1.lt; have := hJ.out.1.bg; omega))⟩
     rw [hw8] at HE8
     clear hb7 hw8 hb8
     by_cases hms : m.s ≤ 40
     ·have hmsI : ¬ (40 : Int) < m.s := by omega
      have HE9 : Hid (∀ (t : Nat) m, t < j + 1 → ns[t]? = some m → m.s ≤ 40) := fun t m' ht hm' => by
       by_cases e : t = j
       ·subst e; rw [HMS.out] at hm'; injection hm' with hm'; rw [← hm']; exact hms
       ·exact hJ.out.2.2 t m' (by omega) hm'
      go_wp2_with fail
      exact ⟨⟨j + 1, by omega, by go_num, HE8.out.1, HE8.out.2, HE9.out⟩, by simp [intOf]; omega⟩
     ·have hmsI : (40 : Int) < m.s := by omega
      go_wp2_with fail
      go_ret2
      exact Or.inl ⟨none, rfl, by rw [← HBB.out]; exact HE8.out.2⟩
    ·obtain rfl : j = N := by omega
     have hjI : ¬ (j : Int) + 1 ≤ (j : Int) := by omega
     go_wp2_with fail
     refine Calls.mono (HLN.out wr hJ.out.1) ?_
     rintro e w6 ⟨rfl, hw6⟩
     obtain rfl : wr = w6 := hw6.symm
     clear hw6
     go_wp2_with fail
     refine Calls.mono (HLN.out wr hJ.out.1) ?_
     rintro e w6 ⟨rfl, hw6⟩
     obtain rfl : wr = w6 := hw6.symm
     clear hw6
     by_cases h0 : j = 0
     ·subst h0
      have h0I : ¬ (0 : Int) < ((0 : Nat) : Int) := by decide
      go_wp2_with fail
      go_ret2
      exact Or.inl ⟨_, rfl, by rw [← HBB.out]; exact hJ.out.2.1⟩
     ·have h0I : (0 : Int) < (j : Int) := by omega
      have h0N : 0 < j := by omega
      have HE : Hid (Gr wr w.heap.size gB B mv v 4096 ns ∧ Nk ns ∧ 0 < ns.length ∧ ns.length ≤ 40 ∧ (∀ n ∈ ns, n.s ≤ 40) ∧ Below w.heap.size w wr) := by
       have h8 := HNN.out
       refine ⟨by rw [← HBB.out]; exact hJ.out.1, HNK.out, by omega, by omega, fun m' hm' => ?_, by rw [← HBB.out]; exact hJ.out.2.1⟩
       obtain ⟨t, ht, rfl⟩ := List.getElem_of_mem hm'
       exact hJ.out.2.2 t _ (by omega) (List.getElem?_eq_getElem ht)
      go_wp2_with fail
      go_ret2
      exact Or.inr ⟨gB, B, mv, v, ns, rfl, HE.out⟩
end Go.Proofs.YtcahhahbcijkiaaGreat
