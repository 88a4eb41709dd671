import Derived.Test.YtcahhahbcijkiaaGreatBL9
namespace Go.Proofs.YtcahhahbcijkiaaGreat.Ag
set_option maxHeartbeats 12800000
set_option maxRecDepth 100000
open Go.RowKit
set_option linter.unusedSimpArgs false
set_option linter.unusedVariables false
structure WOk (s : Gz) (p : List Int × Gz) (n : Nat) : Prop where
 pre : Pg s.ks p.2.ks
 len : p.1.length = n
 ok : ∀ x ∈ p.1, OkG p.2 x
def Oks (s : Gz) (A : List Int) : Prop := ∀ x ∈ A, OkG s x
theorem Oks.tu {s : Gz} {A : List Int} (h : Oks s A) : Oks s (A.map tu) := fun x hx => by
 obtain ⟨y, hy, rfl⟩ := List.mem_map.1 hx
 exact (h y hy).trn
theorem Oks.rep {s : Gz} {c : Int} (h : OkG s c) (n : Nat) : Oks s (List.replicate n c) := fun x hx => by rw [List.eq_of_mem_replicate hx]; exact h
theorem Oks.grow {s s' : Gz} {A : List Int} (h : Oks s A) (hp : Pg s.ks s'.ks) : Oks s' A := fun x hx => (h x hx).grow hp
theorem gk_and (mo : Nat) (s : Gz) : GK (gAnd mo) s := ⟨fun _ _ _ _ _ _ => gAnd_pre, fun _ _ _ _ hp _ _ => gAnd_ok hp⟩
theorem gk_or (mo : Nat) (s : Gz) : GK (gOr mo) s := ⟨fun _ _ _ _ _ _ => gOr_pre, fun _ _ _ _ hp _ _ => gOr_ok hp⟩
theorem gk_xor (mo : Nat) (s : Gz) : GK (gXor mo) s := ⟨fun _ _ _ _ _ _ => gXor_pre, fun _ _ _ _ hp _ _ => gXor_ok hp⟩
theorem gk_mux (mo : Nat) (s : Gz) (c : Int) : GK (fun s a b => gMux mo s c a b) s := ⟨fun _ _ _ _ _ _ => gMux_pre, fun _ _ _ _ hp ha _ => gMux_ok hp ha⟩
theorem each_wok {G : Gz → Int → Int → Int × Gz} {s : Gz} {A B : List Int} (hG : GK G s) (hp : 0 < s.ks.length) (hA : Oks s A) (hB : Oks s B) (hl : A.length ≤ B.length) : WOk s (eachF G s A B) A.length := by
 obtain ⟨h1, h2⟩ := eachK_ok hG hp hA hB hl A.length (Nat.le_refl _)
 exact ⟨h1, eachK_len _, h2⟩
theorem Gn.fd {w : World} {F : Nat → Prop} {gs g mo : Nat} {s : Gz} (h : Gn w F gs g mo s) : ∀ k, FG F gs k → k < w.heap.size := fun k hk => by
 rcases hk with hk | hk
 ·exact h.bd k hk
 ·rw [hk]; exact h.lt
section
variable {w : World} {F : Nat → Prop} {gs g mo : Nat} {s : Gz} {ua ub : Value} {A B : List Int}
def wbothF (mo : Nat) (s : Gz) (A B : List Int) : List Int × Gz := eachF (gAnd mo) s A B
theorem wboth_wok (hp : 0 < s.ks.length) (hA : Oks s A) (hB : Oks s B) (hl : A.length ≤ B.length) : WOk s (wbothF mo s A B) A.length := each_wok (gk_and mo s) hp hA hB hl
theorem wboth_any (h : Gn w F gs g mo s) (hA : Wd w (FG F gs) ua A) (hB : Wd w (FG F gs) ub B) (hl : A.length ≤ B.length) (oA : Oks s A) (oB : Oks s B) :
  Calls Tryz.prog 84 #[.pointer (some ⟨gs, 0, none⟩), ua, ub] w (WG w F gs g mo (wbothF mo s A B)) := by
 have HE : Hid _ := each_and h (gk_and mo s) hA hB hl oA oB (fun wx F' s' a b hG _ ha hb _ => gand_any hG a b ha hb)
 obtain ⟨a1, c1, rfl, -, -⟩ := hA.sl
 obtain ⟨a2, c2, rfl, -, -⟩ := hB.sl
 obtain ⟨q, hq⟩ : ∃ q, q = wbothF mo s A B := ⟨_, rfl⟩
 rw [← hq]
 have hq2 : eachF (gAnd mo) s A B = q := hq.symm
 rw [hq2] at HE
 clear h hA hB hl oA oB hq hq2
 go_enter Tryz.func84, Tryz.ntmps84
 go_wp2_with fail
 refine Calls.mono HE.out ?_
 rintro ev w2 ⟨u, rfl, hF⟩
 have HF : Hid _ := hF
 clear hF HE
 go_wp2_with fail
 go_ret
 exact ⟨_, rfl, HF.out⟩
def weitherF (mo : Nat) (s : Gz) (A B : List Int) : List Int × Gz := eachF (gOr mo) s A B
theorem weither_wok (hp : 0 < s.ks.length) (hA : Oks s A) (hB : Oks s B) (hl : A.length ≤ B.length) : WOk s (weitherF mo s A B) A.length := each_wok (gk_or mo s) hp hA hB hl
theorem weither_any (h : Gn w F gs g mo s) (hA : Wd w (FG F gs) ua A) (hB : Wd w (FG F gs) ub B) (hl : A.length ≤ B.length) (oA : Oks s A) (oB : Oks s B) :
  Calls Tryz.prog 85 #[.pointer (some ⟨gs, 0, none⟩), ua, ub] w (WG w F gs g mo (weitherF mo s A B)) := by
 have HE : Hid _ := each_or h (gk_or mo s) hA hB hl oA oB (fun wx F' s' a b hG _ ha hb _ => gor_any hG ha hb)
 obtain ⟨a1, c1, rfl, -, -⟩ := hA.sl
 obtain ⟨a2, c2, rfl, -, -⟩ := hB.sl
 obtain ⟨q, hq⟩ : ∃ q, q = weitherF mo s A B := ⟨_, rfl⟩
 rw [← hq]
 have hq2 : eachF (gOr mo) s A B = q := hq.symm
 rw [hq2] at HE
 clear h hA hB hl oA oB hq hq2
 go_enter Tryz.func85, Tryz.ntmps85
 go_wp2_with fail
 refine Calls.mono HE.out ?_
 rintro ev w2 ⟨u, rfl, hF⟩
 have HF : Hid _ := hF
 clear hF HE
 go_wp2_with fail
 go_ret
 exact ⟨_, rfl, HF.out⟩
def wunlikeF (mo : Nat) (s : Gz) (A B : List Int) : List Int × Gz := eachF (gXor mo) s A B
theorem wunlike_wok (hp : 0 < s.ks.length) (hA : Oks s A) (hB : Oks s B) (hl : A.length ≤ B.length) : WOk s (wunlikeF mo s A B) A.length := each_wok (gk_xor mo s) hp hA hB hl
theorem wunlike_any (h : Gn w F gs g mo s) (hA : Wd w (FG F gs) ua A) (hB : Wd w (FG F gs) ub B) (hl : A.length ≤ B.length) (oA : Oks s A) (oB : Oks s B) :
  Calls Tryz.prog 86 #[.pointer (some ⟨gs, 0, none⟩), ua, ub] w (WG w F gs g mo (wunlikeF mo s A B)) := by
 have HE : Hid _ := each_xor h (gk_xor mo s) hA hB hl oA oB (fun wx F' s' a b hG _ ha hb _ => gxor_any hG ha hb)
 obtain ⟨a1, c1, rfl, -, -⟩ := hA.sl
 obtain ⟨a2, c2, rfl, -, -⟩ := hB.sl
 obtain ⟨q, hq⟩ : ∃ q, q = wunlikeF mo s A B := ⟨_, rfl⟩
 rw [← hq]
 have hq2 : eachF (gXor mo) s A B = q := hq.symm
 rw [hq2] at HE
 clear h hA hB hl oA oB hq hq2
 go_enter Tryz.func86, Tryz.ntmps86
 go_wp2_with fail
 refine Calls.mono HE.out ?_
 rintro ev w2 ⟨u, rfl, hF⟩
 have HF : Hid _ := hF
 clear hF HE
 go_wp2_with fail
 go_ret
 exact ⟨_, rfl, HF.out⟩
def wnotBothF (mo : Nat) (s : Gz) (A B : List Int) : List Int × Gz := ((wbothF mo s A B).1.map tu, (wbothF mo s A B).2)
theorem wnotBoth_wok (hp : 0 < s.ks.length) (hA : Oks s A) (hB : Oks s B) (hl : A.length ≤ B.length) : WOk s (wnotBothF mo s A B) A.length := by
 have h := wboth_wok (mo := mo) hp hA hB hl
 exact ⟨h.pre, by show (List.map tu _).length = _; rw [List.length_map]; exact h.len, Oks.tu h.ok⟩
theorem wnotBoth_any (h : Gn w F gs g mo s) (hA : Wd w (FG F gs) ua A) (hB : Wd w (FG F gs) ub B) (hl : A.length ≤ B.length) (oA : Oks s A) (oB : Oks s B) :
  Calls Tryz.prog 88 #[.pointer (some ⟨gs, 0, none⟩), ua, ub] w (WG w F gs g mo (wnotBothF mo s A B)) := by
 have HE : Hid _ := wboth_any h hA hB hl oA oB
 have hok := wboth_wok (mo := mo) h.pos oA oB hl
 obtain ⟨a1, c1, rfl, -, -⟩ := hA.sl
 obtain ⟨a2, c2, rfl, -, -⟩ := hB.sl
 obtain ⟨q, hq⟩ : ∃ q, q = wnotBothF mo s A B := ⟨_, rfl⟩
 rw [← hq]
 obtain ⟨p, hp⟩ : ∃ p, p = wbothF mo s A B := ⟨_, rfl⟩
 have HQ : Hid (q = (p.1.map tu, p.2)) := by unfold Hid; rw [hq, hp]; rfl
 rw [← hp] at HE hok
 have HOK : Hid _ := hok
 clear h hA hB hl oA oB hq hp hok
 go_enter Tryz.func88, Tryz.ntmps88
 go_wp2_with fail
 refine Calls.mono HE.out ?_
 rintro ev w2 ⟨u, rfl, F2, hW2, hG2, hC2⟩
 have HT : Hid _ := turned_any hW2 (fun x hx => hG2.sm (HOK.out.ok x hx)) hG2.fd
 obtain ⟨a3, c3, rfl, -, -⟩ := hW2.sl
 have HG2 : Hid (Gn w2 F2 gs g mo p.2) := hG2
 have HC2 : Hid (Ch w w2 (FG F gs) (FG F2 gs)) := hC2
 clear hW2 hG2 hC2 HE
 go_wp2_with fail
 refine Calls.mono HT.out ?_
 rintro ev w3 ⟨u3, rfl, hW3, hb3⟩
 have HF : Hid (∃ F', Wd w3 (FG F' gs) u3 q.1 ∧ Gn w3 F' gs g mo q.2 ∧ Ch w w3 (FG F gs) (FG F' gs)) := by
  rw [HQ.out]
  exact ⟨F2, hW3, HG2.out.below hb3, HC2.out.trans (Ch.of_below _ hb3)⟩
 clear hW3 hb3 HT
 go_wp2_with fail
 go_ret
 exact ⟨_, rfl, HF.out⟩
def wneitherF (mo : Nat) (s : Gz) (A B : List Int) : List Int × Gz := ((weitherF mo s A B).1.map tu, (weitherF mo s A B).2)
theorem wneither_wok (hp : 0 < s.ks.length) (hA : Oks s A) (hB : Oks s B) (hl : A.length ≤ B.length) : WOk s (wneitherF mo s A B) A.length := by
 have h := weither_wok (mo := mo) hp hA hB hl
 exact ⟨h.pre, by show (List.map tu _).length = _; rw [List.length_map]; exact h.len, Oks.tu h.ok⟩
theorem wneither_any (h : Gn w F gs g mo s) (hA : Wd w (FG F gs) ua A) (hB : Wd w (FG F gs) ub B) (hl : A.length ≤ B.length) (oA : Oks s A) (oB : Oks s B) :
  Calls Tryz.prog 89 #[.pointer (some ⟨gs, 0, none⟩), ua, ub] w (WG w F gs g mo (wneitherF mo s A B)) := by
 have HE : Hid _ := weither_any h hA hB hl oA oB
 have hok := weither_wok (mo := mo) h.pos oA oB hl
 obtain ⟨a1, c1, rfl, -, -⟩ := hA.sl
 obtain ⟨a2, c2, rfl, -, -⟩ := hB.sl
 obtain ⟨q, hq⟩ : ∃ q, q = wneitherF mo s A B := ⟨_, rfl⟩
 rw [← hq]
 obtain ⟨p, hp⟩ : ∃ p, p = weitherF mo s A B := ⟨_, rfl⟩
 have HQ : Hid (q = (p.1.map tu, p.2)) := by unfold Hid; rw [hq, hp]; rfl
 rw [← hp] at HE hok
 have HOK : Hid _ := hok
 clear h hA hB hl oA oB hq hp hok
 go_enter Tryz.func89, Tryz.ntmps89
 go_wp2_with fail
 refine Calls.mono HE.out ?_
 rintro ev w2 ⟨u, rfl, F2, hW2, hG2, hC2⟩
 have HT : Hid _ := turned_any hW2 (fun x hx => hG2.sm (HOK.out.ok x hx)) hG2.fd
 obtain ⟨a3, c3, rfl, -, -⟩ := hW2.sl
 have HG2 : Hid (Gn w2 F2 gs g mo p.2) := hG2
 have HC2 : Hid (Ch w w2 (FG F gs) (FG F2 gs)) := hC2
 clear hW2 hG2 hC2 HE
 go_wp2_with fail
 refine Calls.mono HT.out ?_
 rintro ev w3 ⟨u3, rfl, hW3, hb3⟩
 have HF : Hid (∃ F', Wd w3 (FG F' gs) u3 q.1 ∧ Gn w3 F' gs g mo q.2 ∧ Ch w w3 (FG F gs) (FG F' gs)) := by
  rw [HQ.out]
  exact ⟨F2, hW3, HG2.out.below hb3, HC2.out.trans (Ch.of_below _ hb3)⟩
 clear hW3 hb3 HT
 go_wp2_with fail
 go_ret
 exact ⟨_, rfl, HF.out⟩
def wlikeF (mo : Nat) (s : Gz) (A B : List Int) : List Int × Gz := ((wunlikeF mo s A B).1.map tu, (wunlikeF mo s A B).2)
theorem wlike_wok (hp : 0 < s.ks.length) (hA : Oks s A) (hB : Oks s B) (hl : A.length ≤ B.length) : WOk s (wlikeF mo s A B) A.length := by
 have h := wunlike_wok (mo := mo) hp hA hB hl
 exact ⟨h.pre, by show (List.map tu _).length = _; rw [List.length_map]; exact h.len, Oks.tu h.ok⟩
theorem wlike_any (h : Gn w F gs g mo s) (hA : Wd w (FG F gs) ua A) (hB : Wd w (FG F gs) ub B) (hl : A.length ≤ B.length) (oA : Oks s A) (oB : Oks s B) :
  Calls Tryz.prog 90 #[.pointer (some ⟨gs, 0, none⟩), ua, ub] w (WG w F gs g mo (wlikeF mo s A B)) := by
 have HE : Hid _ := wunlike_any h hA hB hl oA oB
 have hok := wunlike_wok (mo := mo) h.pos oA oB hl
 obtain ⟨a1, c1, rfl, -, -⟩ := hA.sl
 obtain ⟨a2, c2, rfl, -, -⟩ := hB.sl
 obtain ⟨q, hq⟩ : ∃ q, q = wlikeF mo s A B := ⟨_, rfl⟩
 rw [← hq]
 obtain ⟨p, hp⟩ : ∃ p, p = wunlikeF mo s A B := ⟨_, rfl⟩
 have HQ : Hid (q = (p.1.map tu, p.2)) := by unfold Hid; rw [hq, hp]; rfl
 rw [← hp] at HE hok
 have HOK : Hid _ := hok
 clear h hA hB hl oA oB hq hp hok
 go_enter Tryz.func90, Tryz.ntmps90
 go_wp2_with fail
 refine Calls.mono HE.out ?_
 rintro ev w2 ⟨u, rfl, F2, hW2, hG2, hC2⟩
 have HT : Hid _ := turned_any hW2 (fun x hx => hG2.sm (HOK.out.ok x hx)) hG2.fd
 obtain ⟨a3, c3, rfl, -, -⟩ := hW2.sl
 have HG2 : Hid (Gn w2 F2 gs g mo p.2) := hG2
 have HC2 : Hid (Ch w w2 (FG F gs) (FG F2 gs)) := hC2
 clear hW2 hG2 hC2 HE
 go_wp2_with fail
 refine Calls.mono HT.out ?_
 rintro ev w3 ⟨u3, rfl, hW3, hb3⟩
 have HF : Hid (∃ F', Wd w3 (FG F' gs) u3 q.1 ∧ Gn w3 F' gs g mo q.2 ∧ Ch w w3 (FG F gs) (FG F' gs)) := by
  rw [HQ.out]
  exact ⟨F2, hW3, HG2.out.below hb3, HC2.out.trans (Ch.of_below _ hb3)⟩
 clear hW3 hb3 HT
 go_wp2_with fail
 go_ret
 exact ⟨_, rfl, HF.out⟩
def wimpliedF (mo : Nat) (s : Gz) (A B : List Int) : List Int × Gz := weitherF mo s (A.map tu) B
theorem wimplied_wok (hp : 0 < s.ks.length) (hA : Oks s A) (hB : Oks s B) (hl : A.length ≤ B.length) : WOk s (wimpliedF mo s A B) A.length := by
 have h := weither_wok (mo := mo) hp hA.tu hB (by rw [List.length_map]; exact hl)
 rw [List.length_map] at h
 exact h
theorem wimplied_any (h : Gn w F gs g mo s) (hA : Wd w (FG F gs) ua A) (hB : Wd w (FG F gs) ub B) (hl : A.length ≤ B.length) (oA : Oks s A) (oB : Oks s B) :
  Calls Tryz.prog 87 #[.pointer (some ⟨gs, 0, none⟩), ua, ub] w (WG w F gs g mo (wimpliedF mo s A B)) := by
 have HT : Hid _ := turned_any hA (fun x hx => h.sm (oA x hx)) h.fd
 have H : Hid _ := h
 have HB : Hid _ := hB
 have HO : Hid (Oks s (A.map tu) ∧ Oks s B ∧ (A.map tu).length ≤ B.length) := ⟨oA.tu, oB, by rw [List.length_map]; exact hl⟩
 obtain ⟨a1, c1, rfl, -, -⟩ := hA.sl
 obtain ⟨a2, c2, rfl, -, -⟩ := hB.sl
 obtain ⟨q, hq⟩ : ∃ q, q = wimpliedF mo s A B := ⟨_, rfl⟩
 rw [← hq]
 have HQ : Hid (q = weitherF mo s (A.map tu) B) := hq
 clear h hA hB hl oA oB hq
 go_enter Tryz.func87, Tryz.ntmps87
 go_wp2_with fail
 refine Calls.mono HT.out ?_
 rintro ev w2 ⟨u2, rfl, hW2, hb2⟩
 have HE : Hid _ := weither_any (H.out.below hb2) hW2 (HB.out.below hb2) HO.out.2.2 HO.out.1 HO.out.2.1
 rw [← HQ.out] at HE
 obtain ⟨a3, c3, e3, -, -⟩ := hW2.sl
 rw [List.length_map] at e3
 subst e3
 have HB2 : Hid (Below w.heap.size w w2) := hb2
 clear hW2 hb2 HT
 go_wp2_with fail
 refine Calls.mono HE.out ?_
 rintro ev w3 ⟨u3, rfl, F3, hW3, hG3, hC3⟩
 have HF : Hid (∃ F', Wd w3 (FG F' gs) u3 q.1 ∧ Gn w3 F' gs g mo q.2 ∧ Ch w w3 (FG F gs) (FG F' gs)) := ⟨F3, hW3, hG3, (Ch.of_below _ HB2.out).trans hC3⟩
 clear hW3 hG3 hC3 HE
 go_wp2_with fail
 go_ret
 exact ⟨_, rfl, HF.out⟩
def wmaskedF (mo : Nat) (s : Gz) (c : Int) (A : List Int) : List Int × Gz := wbothF mo s (List.replicate A.length c) A
theorem wmasked_wok {c : Int} (hp : 0 < s.ks.length) (hc : OkG s c) (hA : Oks s A) : WOk s (wmaskedF mo s c A) A.length := by
 have h := wboth_wok (mo := mo) hp (Oks.rep hc A.length) hA (by rw [List.length_replicate]; exact Nat.le_refl _)
 rw [List.length_replicate] at h
 exact h
theorem wmasked_any {c : Int} (h : Gn w F gs g mo s) (hc : OkG s c) (hA : Wd w (FG F gs) ua A) (oA : Oks s A) :
  Calls Tryz.prog 142 #[.pointer (some ⟨gs, 0, none⟩), .int .i64 c, ua] w (WG w F gs g mo (wmaskedF mo s c A)) := by
 have H : Hid _ := h
 have HA : Hid _ := hA
 have HO : Hid (Oks s (List.replicate A.length c) ∧ Oks s A) := ⟨Oks.rep hc _, oA⟩
 obtain ⟨a1, c1, rfl, -, h5⟩ := hA.sl
 have HF1 : Hid _ := filled_any (D := FG F gs) (l := c) (n := A.length) h5 h.fd
 obtain ⟨q, hq⟩ : ∃ q, q = wmaskedF mo s c A := ⟨_, rfl⟩
 rw [← hq]
 have HQ : Hid (q = wbothF mo s (List.replicate A.length c) A) := hq
 clear h hA oA hq hc
 go_enter Tryz.func142, Tryz.ntmps142
 go_wp2_with fail
 refine Calls.mono HF1.out ?_
 rintro ev w2 ⟨u2, rfl, hW2, hb2⟩
 have HE : Hid _ := wboth_any (H.out.below hb2) hW2 (HA.out.below hb2) (by rw [List.length_replicate]; exact Nat.le_refl _) HO.out.1 HO.out.2
 rw [← HQ.out] at HE
 obtain ⟨a3, c3, e3, -, -⟩ := hW2.sl
 rw [List.length_replicate] at e3
 subst e3
 have HB2 : Hid (Below w.heap.size w w2) := hb2
 clear hW2 hb2 HF1
 go_wp2_with fail
 refine Calls.mono HE.out ?_
 rintro ev w3 ⟨u3, rfl, F3, hW3, hG3, hC3⟩
 have HF : Hid (∃ F', Wd w3 (FG F' gs) u3 q.1 ∧ Gn w3 F' gs g mo q.2 ∧ Ch w w3 (FG F gs) (FG F' gs)) := ⟨F3, hW3, hG3, (Ch.of_below _ HB2.out).trans hC3⟩
 clear hW3 hG3 hC3 HE
 go_wp2_with fail
 go_ret
 exact ⟨_, rfl, HF.out⟩
def wchoiceF (mo : Nat) (s : Gz) (c : Int) (A B : List Int) : List Int × Gz := eachF (fun s a b => gMux mo s c a b) s A B
theorem wchoice_wok {c : Int} (hp : 0 < s.ks.length) (hA : Oks s A) (hB : Oks s B) (hl : A.length ≤ B.length) : WOk s (wchoiceF mo s c A B) A.length := each_wok (gk_mux mo s c) hp hA hB hl
theorem mux_cl {q4 q5 : Nat} {c a b : Int} (h : Gn w F gs g mo s) (h4 : w.cell? ⟨q4, 0, none⟩ = some (.pointer (some ⟨gs, 0, none⟩))) (h5 : w.cell? ⟨q5, 0, none⟩ = some (.int .i64 c)) (hc : OkG s c) (ha : OkG s a) (hb : OkG s b) :
  Calls Tryz.prog 94 #[.int .i64 a, .int .i64 b, .pointer (some ⟨q4, 0, none⟩), .pointer (some ⟨q5, 0, none⟩)] w (GD w F gs g mo (gMux mo s c a b)) := by
 have HM : Hid _ := gmux_any h hc ha hb
 obtain ⟨q, hq⟩ : ∃ q, q = gMux mo s c a b := ⟨_, rfl⟩
 rw [← hq] at HM ⊢
 clear h hc ha hb hq
 go_enter Tryz.func94, Tryz.ntmps94
 go_wp2_with fail
 refine Calls.mono HM.out ?_
 rintro ev w2 ⟨rfl, hF⟩
 have HF : Hid _ := hF
 clear hF HM
 go_wp2_with fail
 go_ret
 exact ⟨rfl, HF.out⟩
theorem wchoice_any {c : Int} (h : Gn w F gs g mo s) (hc : OkG s c) (hA : Wd w (FG F gs) ua A) (hB : Wd w (FG F gs) ub B) (hl : A.length ≤ B.length) (oA : Oks s A) (oB : Oks s B) :
  Calls Tryz.prog 63 #[.pointer (some ⟨gs, 0, none⟩), .int .i64 c, ua, ub] w (WG w F gs g mo (wchoiceF mo s c A B)) := by
 have HE : Hid (∀ (wx : World) (q4 q5 : Nat), Below w.heap.size w wx → wx.cell? ⟨q4, 0, none⟩ = some (.pointer (some ⟨gs, 0, none⟩)) → wx.cell? ⟨q5, 0, none⟩ = some (.int .i64 c) → w.heap.size ≤ q4 → w.heap.size ≤ q5 → Calls Tryz.prog 93 #[.func (.func 94) #[] #[.pointer (some ⟨q4, 0, none⟩), .pointer (some ⟨q5, 0, none⟩)], ua, ub] wx (WG wx F gs g mo (wchoiceF mo s c A B))) := fun wx q4 q5 hb h4 h5 hq4 hq5 => by
  have hw := h.below hb
  refine each_mux hw (gk_mux mo s c) (hA.below hb) (hB.below hb) hl oA oB (fun wy F' s' a b hG hpre ha hb2 hC => ?_)
  have nf : ∀ q, w.heap.size ≤ q → ¬ FG F gs q := fun q hq e => by have := h.fd q e; omega
  refine mux_cl hG ?_ ?_ (hc.grow hpre) ha hb2
  ·exact (World.cell?_of_block (a := ⟨q4, 0, none⟩) (hC.block q4 (World.block_lt_of_cell? _ _ h4) (nf q4 hq4))).trans h4
  ·exact (World.cell?_of_block (a := ⟨q5, 0, none⟩) (hC.block q5 (World.block_lt_of_cell? _ _ h5) (nf q5 hq5))).trans h5
 obtain ⟨a1, c1, rfl, -, -⟩ := hA.sl
 obtain ⟨a2, c2, rfl, -, -⟩ := hB.sl
 obtain ⟨q, hq⟩ : ∃ q, q = wchoiceF mo s c A B := ⟨_, rfl⟩
 rw [← hq] at HE ⊢
 clear h hA hB hl oA oB hq hc
 go_enter Tryz.func63, Tryz.ntmps63
 go_wp2_with fail
 refine Calls.mono (HE.out _ _ _ (by go_grown) (by simp [go_sem]) (by simp [go_sem]) (by simp) (by simp)) ?_
 rintro ev w2 ⟨u, rfl, F2, hW2, hG2, hC2⟩
 have HF : Hid (∃ F', Wd w2 (FG F' gs) u q.1 ∧ Gn w2 F' gs g mo q.2 ∧ Ch w w2 (FG F gs) (FG F' gs)) := ⟨F2, hW2, hG2, (Ch.of_below (FG F gs) (by go_grown)).trans hC2⟩
 clear hW2 hG2 hC2 HE
 go_wp2_with fail
 go_ret
 exact ⟨_, rfl, HF.out⟩
end
open Go.RowKit
def sumS (mo : Nat) (more : Bool) (s : Gz) (a b c : Int) : Int × Int × Gz :=
 let t := prF a b c
 let h := gXor mo s t.1 t.2.1
 let o := gXor mo h.2 h.1 t.2.2
 if more then (o.1, (gCarry mo o.2 t.1 t.2.1 h.1 t.2.2).1, (gCarry mo o.2 t.1 t.2.1 h.1 t.2.2).2) else (o.1, c, o.2)
def sumK (mo : Nat) (s : Gz) (A B : List Int) : Nat → List Int × Int × Gz
 | 0 => ([], 0, s)
 | k + 1 => ((sumK mo s A B k).1 ++ [(sumS mo (decide (k + 1 < A.length)) (sumK mo s A B k).2.2 (A.getD k 0) (B.getD k 0) (sumK mo s A B k).2.1).1], (sumS mo (decide (k + 1 < A.length)) (sumK mo s A B k).2.2 (A.getD k 0) (B.getD k 0) (sumK mo s A B k).2.1).2)
def sumF (mo : Nat) (s : Gz) (A B : List Int) : List Int × Gz := ((sumK mo s A B A.length).1, (sumK mo s A B A.length).2.2)
theorem prF_ok {s : Gz} {a b c : Int} (ha : OkG s a) (hb : OkG s b) (hc : OkG s c) : OkG s (prF a b c).1 ∧ OkG s (prF a b c).2.1 ∧ OkG s (prF a b c).2.2 := by
 unfold prF
 split
 ·exact ⟨ha, hb, hc⟩
 ·split
  ·exact ⟨ha, hc, hb⟩
  ·exact ⟨hb, hc, ha⟩
theorem sumS_ok {mo : Nat} {more : Bool} {s : Gz} {a b c : Int} (hp : 0 < s.ks.length) (hc : OkG s c) : Pg s.ks (sumS mo more s a b c).2.2.ks ∧ OkG (sumS mo more s a b c).2.2 (sumS mo more s a b c).1 ∧ OkG (sumS mo more s a b c).2.2 (sumS mo more s a b c).2.1 := by
 have p1 := gXor_pre (mo := mo) (s := s) (a := (prF a b c).1) (b := (prF a b c).2.1)
 obtain ⟨h, hh⟩ : ∃ h, h = gXor mo s (prF a b c).1 (prF a b c).2.1 := ⟨_, rfl⟩
 rw [← hh] at p1
 have hp1 : 0 < h.2.ks.length := by have := p1.length_le; omega
 have p2 := gXor_pre (mo := mo) (s := h.2) (a := h.1) (b := (prF a b c).2.2)
 have o2 := gXor_ok (mo := mo) (s := h.2) (a := h.1) (b := (prF a b c).2.2) hp1
 obtain ⟨o, ho⟩ : ∃ o, o = gXor mo h.2 h.1 (prF a b c).2.2 := ⟨_, rfl⟩
 rw [← ho] at p2 o2
 have hp2 : 0 < o.2.ks.length := by have := p2.length_le; omega
 unfold sumS
 simp only
 rw [← hh, ← ho]
 cases more
 ·exact ⟨p1.trans p2, o2, hc.grow (p1.trans p2)⟩
 ·have p3 := gCarry_pre (mo := mo) (s := o.2) (a := (prF a b c).1) (b := (prF a b c).2.1) (f := h.1) (c := (prF a b c).2.2)
  exact ⟨(p1.trans p2).trans p3, o2.grow p3, gCarry_ok hp2⟩
theorem sumK_len {mo : Nat} {s : Gz} {A B : List Int} : ∀ k, (sumK mo s A B k).1.length = k
 | 0 => rfl
 | k + 1 => by
  show ((sumK mo s A B k).1 ++ [_]).length = k + 1
  rw [List.length_append, sumK_len k]
  rfl
theorem sumK_ok {mo : Nat} {s : Gz} {A B : List Int} (hp : 0 < s.ks.length) : ∀ k, Pg s.ks (sumK mo s A B k).2.2.ks ∧ OkG (sumK mo s A B k).2.2 (sumK mo s A B k).2.1 ∧ Oks (sumK mo s A B k).2.2 (sumK mo s A B k).1
 | 0 => ⟨Pg.refl _, ⟨Int.le_refl _, by show (0 : Int) < 2 * (s.ks.length : Int); omega⟩, fun x hx => by cases hx⟩
 | k + 1 => by
  obtain ⟨h1, h2, h3⟩ := sumK_ok (mo := mo) (s := s) (A := A) (B := B) hp k
  obtain ⟨g1, g2, g3⟩ := sumS_ok (mo := mo) (more := decide (k + 1 < A.length)) (a := A.getD k 0) (b := B.getD k 0) (by have := h1.length_le; omega) h2
  refine ⟨h1.trans g1, g3, fun x hx => ?_⟩
  rcases List.mem_append.1 hx with hx | hx
  ·exact (h3 x hx).grow g1
  ·rw [List.mem_singleton.1 hx]; exact g2
theorem sum_wok {mo : Nat} {s : Gz} {A B : List Int} (hp : 0 < s.ks.length) : WOk s (sumF mo s A B) A.length := by
 obtain ⟨h1, h2, h3⟩ := sumK_ok (mo := mo) (s := s) (A := A) (B := B) hp A.length
 exact ⟨h1, sumK_len _, h3⟩
theorem EQ3.more {w z z' : World} {F F2 F3 : Nat → Prop} {gs g0 mo : Nat} {s' : Gz} {v : Value} {O : List Int} (hC : Ch w z (FG F gs) (FG F2 gs)) (hO : Is' z w.heap.size v O) (hs : ∀ q, v.ownBlock = some q → ¬ FG F2 gs q) (hG : Gn z' F3 gs g0 mo s') (hC2 : Ch z z' (FG F2 gs) (FG F3 gs)) : Gn z' F3 gs g0 mo s' ∧ Ch w z' (FG F gs) (FG F3 gs) ∧ Is' z' w.heap.size v O ∧ ∀ q, v.ownBlock = some q → ¬ FG F3 gs q := by
 refine ⟨hG, hC.trans hC2, row_own hO (fun q hq => hC2.block q (hO.lt q hq).2 (hs q hq)), fun q hq e => ?_⟩
 rcases hC2.foot q e with r | r
 ·exact hs q hq r
 ·have := (hO.lt q hq).2; omega
theorem wd_of {w : World} {B : Nat} {D : Nat → Prop} {u : Value} {L : List Int} (h : Is' w B u L) (hs : ∀ q, u.ownBlock = some q → ¬ D q) (h5 : L.length ≤ 50000) : Wd w D u L := by
 rcases h.2 with ⟨e, h0⟩ | ⟨r, cap, cur, e, hb, hgg, hc, hm, hs2, ht⟩
 ·have hL : L = [] := List.eq_nil_of_length_eq_zero h0
  rw [hL, e]
  exact Wd.nil w _
 ·refine ⟨_, cap, e, hc, h5, (fun e => by cases e), ?_⟩
  by_cases hL : L = []
  ·exact Or.inl hL
  ·obtain ⟨r', c', e2, -, -, hLi⟩ := h.li hL
   rw [e] at e2
   injection e2 with e2
   injection e2 with e2
   injection e2 with e2
   subst e2
   exact Or.inr ⟨r, 0, rfl, (Array.getElem?_eq_some_iff.1 hgg).1, hs r (by rw [e]; rfl), hLi⟩
theorem sum_any {w : World} {F : Nat → Prop} {gs g mo : Nat} {s : Gz} {ua ub : Value} {A B : List Int} (h : Gn w F gs g mo s) (hA : Wd w (FG F gs) ua A) (hB : Wd w (FG F gs) ub B) (hl : A.length ≤ B.length) (oA : Oks s A) (oB : Oks s B) :
  Calls Tryz.prog 108 #[.pointer (some ⟨gs, 0, none⟩), ua, ub] w (WG w F gs g mo (sumF mo s A B)) := by
 obtain ⟨ti, ht0, hz0, hz1, hz2⟩ := info_any infoInt
 have HI : Hid _ := (⟨ht0, hz0, hz1, hz2⟩ : Tryz.prog.info? 3 = some ti ∧ ti.zero = _ ∧ ti.size = 1 ∧ ti.bytes = 8)
 have H : Hid _ := h
 have HA : Hid _ := hA
 have HB : Hid _ := hB
 have hpos := h.pos
 have HOA : Hid (∀ k, k < A.length → OkG s (A.getD k 0) ∧ OkG s (B.getD k 0)) := fun k hk => ⟨oA _ (getD_mem hk), oB _ (getD_mem (by omega))⟩
 obtain ⟨aa, ca, rfl, -, h5⟩ := hA.sl
 obtain ⟨ab, cb, rfl, -, h5b⟩ := hB.sl
 obtain ⟨q, hq⟩ : ∃ q, q = sumF mo s A B := ⟨_, rfl⟩
 rw [← hq]
 have HQ : Hid (q = ((sumK mo s A B A.length).1, (sumK mo s A B A.length).2.2)) := hq
 obtain ⟨n, hn⟩ : ∃ n, n = A.length := ⟨_, rfl⟩
 obtain ⟨nb, hnb⟩ : ∃ n, n = B.length := ⟨_, rfl⟩
 have HN : Hid _ := hn
 have HNB : Hid _ := hnb
 rw [← hn] at h5 HQ hl ⊢
 rw [← hnb] at hl ⊢
 clear h hA hB oA oB hq hn hnb ht0 hz0 hz1 hz2 h5b
 go_enter Tryz.func108, Tryz.ntmps108
 go_wp2_with fail
 go_loopw [7, 8, 16] (fun v c i wr => ∃ k : Nat, k ≤ n ∧ i = .int .i64 (k : Int) ∧ c = .int .i64 (sumK mo s A B k).2.1 ∧ Hid (∃ F1, Gn wr F1 gs g mo (sumK mo s A B k).2.2 ∧ Ch w wr (FG F gs) (FG F1 gs) ∧ Is' wr w.heap.size v (sumK mo s A B k).1 ∧ ∀ q, v.ownBlock = some q → ¬ FG F1 gs q)) (fun v c i wr => n - (intOf i).toNat)
 case atStart => exact ⟨0, Nat.zero_le _, rfl, rfl, F, H.out, Ch.refl _ _, World.ownsRow_nil _ _ _ _, fun q e => by cases e⟩
 case round =>
  obtain ⟨k, hk, rfl, rfl, F1, hG1, hC1, hO1, hsep1⟩ := hrel
  by_cases hkn : k < n
  ·obtain ⟨ra, oa, ca', ea, hra, hca⟩ := (HA.out.ch hC1).cell (k := k) (by rw [← HN.out]; exact hkn)
   obtain ⟨rb, ob, cb', eb, hrb, hcb⟩ := (HB.out.ch hC1).cell (k := k) (by rw [← HNB.out]; omega)
   rw [← HN.out] at ea
   rw [← HNB.out] at eb
   injection ea with ea1 ea2 ea3
   injection eb with eb1 eb2 eb3
   obtain ⟨k1, k2, k3⟩ := sumK_ok (mo := mo) (s := s) (A := A) (B := B) hpos k
   obtain ⟨m1, m2⟩ := HOA.out k (by rw [← HN.out]; exact hkn)
   have HST : Hid (sumK mo s A B (k + 1) = ((sumK mo s A B k).1 ++ [(sumS mo (decide (k + 1 < n)) (sumK mo s A B k).2.2 (A.getD k 0) (B.getD k 0) (sumK mo s A B k).2.1).1], (sumS mo (decide (k + 1 < n)) (sumK mo s A B k).2.2 (A.getD k 0) (B.getD k 0) (sumK mo s A B k).2.1).2)) := by unfold Hid; rw [HN.out]; rfl
   have hlen := sumK_len (mo := mo) (s := s) (A := A) (B := B) k
   obtain ⟨x1, hx1⟩ : ∃ x, x = A.getD k 0 := ⟨_, rfl⟩
   obtain ⟨x2, hx2⟩ : ∃ x, x = B.getD k 0 := ⟨_, rfl⟩
   have ok1 := m1.grow k1
   have ok2 := m2.grow k1
   rw [← hx1] at hca HST ok1
   rw [← hx2] at hcb HST ok2
   obtain ⟨St, hSt⟩ : ∃ y, y = sumK mo s A B k := ⟨_, rfl⟩
   rw [← hSt] at hG1 hO1 HST hlen k1 k2 k3 ok1 ok2 ⊢
   obtain ⟨O, cy, s1⟩ := St
   dsimp only at hG1 hO1 HST hlen k2 ok1 ok2 ⊢
   obtain ⟨t1, t2, t3⟩ := prF_ok ok1 ok2 k2
   have HPR : Hid (∀ wx, Calls Tryz.prog 138 #[.int .i64 x1, .int .i64 x2, .int .i64 cy] wx fun e w' => e = .returned (.tuple #[.int .i64 (prF x1 x2 cy).1, .int .i64 (prF x1 x2 cy).2.1, .int .i64 (prF x1 x2 cy).2.2]) ∧ w' = wx) := fun wx => paired_any (hG1.sm ok1) (hG1.sm ok2) (hG1.sm k2) wx
   have HSS : Hid (sumS mo (decide (k + 1 < n)) s1 x1 x2 cy = if decide (k + 1 < n) then ((gXor mo (gXor mo s1 (prF x1 x2 cy).1 (prF x1 x2 cy).2.1).2 (gXor mo s1 (prF x1 x2 cy).1 (prF x1 x2 cy).2.1).1 (prF x1 x2 cy).2.2).1, (gCarry mo (gXor mo (gXor mo s1 (prF x1 x2 cy).1 (prF x1 x2 cy).2.1).2 (gXor mo s1 (prF x1 x2 cy).1 (prF x1 x2 cy).2.1).1 (prF x1 x2 cy).2.2).2 (prF x1 x2 cy).1 (prF x1 x2 cy).2.1 (gXor mo s1 (prF x1 x2 cy).1 (prF x1 x2 cy).2.1).1 (prF x1 x2 cy).2.2).1, (gCarry mo (gXor mo (gXor mo s1 (prF x1 x2 cy).1 (prF x1 x2 cy).2.1).2 (gXor mo s1 (prF x1 x2 cy).1 (prF x1 x2 cy).2.1).1 (prF x1 x2 cy).2.2).2 (prF x1 x2 cy).1 (prF x1 x2 cy).2.1 (gXor mo s1 (prF x1 x2 cy).1 (prF x1 x2 cy).2.1).1 (prF x1 x2 cy).2.2).2) else ((gXor mo (gXor mo s1 (prF x1 x2 cy).1 (prF x1 x2 cy).2.1).2 (gXor mo s1 (prF x1 x2 cy).1 (prF x1 x2 cy).2.1).1 (prF x1 x2 cy).2.2).1, cy, (gXor mo (gXor mo s1 (prF x1 x2 cy).1 (prF x1 x2 cy).2.1).2 (gXor mo s1 (prF x1 x2 cy).1 (prF x1 x2 cy).2.1).1 (prF x1 x2 cy).2.2).2)) := rfl
   obtain ⟨S1, hS1⟩ : ∃ y, y = sumS mo (decide (k + 1 < n)) s1 x1 x2 cy := ⟨_, rfl⟩
   rw [← hS1] at HST HSS
   obtain ⟨T, hT⟩ : ∃ y, y = prF x1 x2 cy := ⟨_, rfl⟩
   rw [← hT] at HPR HSS t1 t2 t3
   obtain ⟨T1, T2, T3⟩ := T
   dsimp only at HPR HSS t1 t2 t3
   obtain ⟨aO, cO, eO, -⟩ := hO1.any
   rw [hlen] at eO
   subst eO
   have HO : Hid (Is' wr w.heap.size (.slice aO k cO) O) := hO1
   have HC1 : Hid (Ch w wr (FG F gs) (FG F1 gs)) := hC1
   have HSEP : Hid (∀ q, (Value.slice aO k cO).ownBlock = some q → ¬ FG F1 gs q) := hsep1
   have HG1 : Hid (Gn wr F1 gs g mo s1) := hG1
   have hws : w.heap.size ≤ wr.heap.size := hC1.size
   have HLN : Hid (O.length = k) := hlen
   have HTO : Hid (OkG s1 T1 ∧ OkG s1 T2 ∧ OkG s1 T3) := ⟨t1, t2, t3⟩
   rw [ea1, eb1]
   have hkI : (k : Int) < (n : Int) := by omega
   have hkB : (k : Int) < (nb : Int) := by omega
   clear ea1 ea2 ea3 eb1 eb2 eb3 hG1 hC1 hO1 hsep1 k1 k2 k3 m1 m2 hx1 hx2 hlen hS1 hT hSt t1 t2 t3 ok1 ok2
   go_wp2_with fail
   go_quiet ((go_at_call 138; refine Calls.quiet_of_same (HPR.out _)))
   obtain ⟨wd, hwd⟩ : ∃ wd, wd = wr.drewN nq := ⟨_, rfl⟩
   rw [← hwd]
   have hbd : Below wr.heap.size wr wd := by rw [hwd]; exact below_drewN (Below.refl _ _) _
   have HC2 : Hid _ := gxor_any (HG1.out.below hbd) HTO.out.1 HTO.out.2.1
   have hp2 := gXor_pre (mo := mo) (s := s1) (a := T1) (b := T2)
   have ho2 := gXor_ok (mo := mo) (s := s1) (a := T1) (b := T2) HG1.out.pos
   obtain ⟨hh, hhe⟩ : ∃ y, y = gXor mo s1 T1 T2 := ⟨_, rfl⟩
   rw [← hhe] at HC2 HSS hp2 ho2
   have HBD : Hid (Ch wr wd (FG F1 gs) (FG F1 gs)) := Ch.of_below _ hbd
   have HH : Hid (Pg s1.ks hh.2.ks ∧ OkG hh.2 hh.1) := ⟨hp2, ho2⟩
   clear hhe hwd hbd hca hcb HPR hp2 ho2
   go_wp2_with fail
   refine Calls.mono HC2.out ?_
   rintro ev w2 ⟨rfl, F2, hG2, hC2⟩
   have HC3 : Hid _ := gxor_any hG2 HH.out.2 (HTO.out.2.2.grow HH.out.1)
   have hp3 := gXor_pre (mo := mo) (s := hh.2) (a := hh.1) (b := T3)
   have ho3 := gXor_ok (mo := mo) (s := hh.2) (a := hh.1) (b := T3) hG2.pos
   obtain ⟨oo, hoe⟩ : ∃ y, y = gXor mo hh.2 hh.1 T3 := ⟨_, rfl⟩
   rw [← hoe] at HC3 HSS hp3 ho3
   have HD2 : Hid (Ch wr w2 (FG F1 gs) (FG F2 gs)) := HBD.out.trans hC2
   have HO2 : Hid (Pg hh.2.ks oo.2.ks ∧ OkG oo.2 oo.1) := ⟨hp3, ho3⟩
   clear hoe hG2 hC2 HC2 hp3 ho3
   go_wp2_with fail
   refine Calls.mono HC3.out ?_
   rintro ev w3 ⟨rfl, F3, hG3, hC3⟩
   have hE1 : EQ1 wr F1 gs g mo oo w3 := ⟨F3, hG3, HD2.out.trans hC3⟩
   have hw3 : wr.heap.size ≤ w3.heap.size := (HD2.out.trans hC3).size
   have HRW : Hid (Is' (w3.alloc (.cells #[.int .i64 oo.1] 3)) w.heap.size (.slice aO k cO) O) := row_own HO.out (fun z hz => by
    have hzl := (HO.out.lt z hz).2
    rw [heap_alloc_old w3 _ (by omega)]
    exact (HD2.out.trans hC3).block z hzl (HSEP.out z hz))
   have HE1 : Hid _ := hE1
   clear hG3 hC3 HC3 hE1
   by_cases hmore : k + 1 < n
   ·have hmI : (k : Int) + 1 < (n : Int) := by omega
    go_wp2_with (at_builtin; refine wpList_append_own_at _ rfl _ _ 81 rfl w.heap.size 3 ti _ 1 8 underWord HI.out.1 HI.out.2.1 HI.out.2.2.1 HI.out.2.2.2 rfl (by decide) _ _ _ rfl HRW.out ⟨w3.heap.size, 0, none⟩ 1 1 [_] rfl rfl (cell_one_new _ _ _) (fun u hu => by rw [List.mem_singleton.1 hu]; rfl) (by rw [HLN.out]; unfold maxLen; omega) (by rw [HLN.out]; omega) (by simp; omega) ?_; intro v1 z hown hgrow hnil hat)
    have hI3 : Is' z w.heap.size v1 (O ++ [oo.1]) := by
     unfold Is'
     rw [List.length_append, List.map_append]
     exact hown
    have HE3 : Hid _ := EQ3.of (v := .slice aO k cO) HE1.out rfl HC1.out HO.out HSEP.out hI3 hgrow hat
    clear hown hgrow hnil hat hI3 HE1 HRW
    have HS2 : Hid (S1 = (oo.1, (gCarry mo oo.2 T1 T2 hh.1 T3).1, (gCarry mo oo.2 T1 T2 hh.1 T3).2)) := by unfold Hid; rw [HSS.out, decide_eq_true hmore]; rfl
    obtain ⟨F4, hG4, hC4, hI4, hs4⟩ := HE3.out
    have p12 : Pg s1.ks oo.2.ks := HH.out.1.trans HO2.out.1
    have HC5 : Hid _ := gcarry_any hG4 (HTO.out.1.grow p12) (HTO.out.2.1.grow p12) (HH.out.2.grow HO2.out.1) (HTO.out.2.2.grow p12)
    obtain ⟨dd, hde⟩ : ∃ y, y = gCarry mo oo.2 T1 T2 hh.1 T3 := ⟨_, rfl⟩
    rw [← hde] at HC5 HS2
    have HK : Hid _ := And.intro hC4 (And.intro hI4 hs4)
    clear hde hG4 hC4 hI4 hs4 p12 HE3
    (try go_wp2_with fail)
    refine Calls.mono HC5.out ?_
    rintro ev w5 ⟨rfl, F5, hG5, hC5⟩
    have HE5 : Hid _ := EQ3.more HK.out.1 HK.out.2.1 HK.out.2.2 hG5 hC5
    clear hG5 hC5
    go_wp2_with fail
    refine ⟨⟨k + 1, by omega, by go_num, by rw [HST.out, HS2.out], ?_⟩, by simp [intOf]; omega⟩
    unfold Hid
    rw [HST.out, HS2.out]
    exact ⟨F5, HE5.out⟩
   ·have hmI : ¬ (k : Int) + 1 < (n : Int) := by omega
    go_wp2_with (at_builtin; refine wpList_append_own_at _ rfl _ _ 81 rfl w.heap.size 3 ti _ 1 8 underWord HI.out.1 HI.out.2.1 HI.out.2.2.1 HI.out.2.2.2 rfl (by decide) _ _ _ rfl HRW.out ⟨w3.heap.size, 0, none⟩ 1 1 [_] rfl rfl (cell_one_new _ _ _) (fun u hu => by rw [List.mem_singleton.1 hu]; rfl) (by rw [HLN.out]; unfold maxLen; omega) (by rw [HLN.out]; omega) (by simp; omega) ?_; intro v1 z hown hgrow hnil hat)
    have hI3 : Is' z w.heap.size v1 (O ++ [oo.1]) := by
     unfold Is'
     rw [List.length_append, List.map_append]
     exact hown
    have HE3 : Hid _ := EQ3.of (v := .slice aO k cO) HE1.out rfl HC1.out HO.out HSEP.out hI3 hgrow hat
    clear hown hgrow hnil hat hI3 HE1 HRW
    have HS2 : Hid (S1 = (oo.1, cy, oo.2)) := by unfold Hid; rw [HSS.out, decide_eq_false hmore]; rfl
    (try go_wp2_with fail)
    refine ⟨⟨k + 1, by omega, by go_num, by rw [HST.out, HS2.out], ?_⟩, by simp [intOf]; omega⟩
    unfold Hid
    rw [HST.out, HS2.out]
    exact HE3.out
  ·obtain rfl : k = n := by omega
   have hkI : ¬ (k : Int) < (k : Int) := by omega
   have HW : Hid (∃ F', Wd wr (FG F' gs) u7 q.1 ∧ Gn wr F' gs g mo q.2 ∧ Ch w wr (FG F gs) (FG F' gs)) := by
    rw [HQ.out]
    exact ⟨F1, wd_of hO1 hsep1 (by rw [sumK_len]; exact h5), hG1, hC1⟩
   clear hG1 hC1 hO1 hsep1
   go_wp2_with fail
   go_ret
   exact ⟨_, rfl, HW.out⟩
end Go.Proofs.YtcahhahbcijkiaaGreat.Ag
