import Derived.Test.YtcahhahbcijkiaaGreatMg35
namespace Go.Proofs.YtcahhahbcijkiaaGreat.Ag
set_option maxHeartbeats 12800000
set_option maxRecDepth 100000
open Go.RowKit
set_option linter.unusedSimpArgs false
set_option linter.unusedVariables false
section
variable {w : World} {F : Nat → Prop} {gs g mo : Nat} {s : Gz} {ua ub : Value} {A B : List Int}
theorem dvF_ok (hp : 0 < s.ks.length) (hB : B.length ≤ 20000) (oA : Oks s A) (oB : Oks s B) : Dok s A.length (dvF mo s A B) := dvK_ok hp (Nat.le_trans shortF_len hB) oA oB.short _
theorem dvK_lf (hp : 0 < s.ks.length) (hB : B.length ≤ 20000) (oA : Oks s A) (oB : Oks s B) : ∀ k, (dvK mo s A B k).lf.length ≤ k
 | 0 => Nat.le_refl _
 | k + 1 => by
  have ih := dvK_lf hp hB oA oB k
  have h := dvK_ok (mo := mo) hp hB oA oB k
  have hp1 : 0 < (dvK mo s A B k).s.ks.length := by have := h.pre.length_le; omega
  have h1 := bh_wok (mo := mo) (n := B.length) hp1 h.fl h.okl h.okf h.oki
  show (_ :: (bhF mo _ _ _ _ _).1 : List Int).length ≤ k + 1
  rw [List.length_cons, h1.len]
  omega
def quoF (mo : Nat) (s : Gz) (A B : List Int) : List Int × Gz := ((dvF mo s A B).dg, (dvF mo s A B).s)
theorem quo_wok (hp : 0 < s.ks.length) (hB : B.length ≤ 20000) (oA : Oks s A) (oB : Oks s B) : WOk s (quoF mo s A B) A.length := by
 have h := dvF_ok (mo := mo) hp hB oA oB
 exact ⟨h.pre, h.len, h.okd⟩
theorem quotient_any (h : Gn w F gs g mo s) (hA : Wd w (FG F gs) ua A) (hB : Wd w (FG F gs) ub B) (oA : Oks s A) (oB : Oks s B) (hb2 : B.length ≤ 20000) (ha2 : A.length ≤ 20000) :
  Calls Tryz.prog 111 #[.pointer (some ⟨gs, 0, none⟩), ua, ub] w (WG w F gs g mo (quoF mo s A B)) := by
 have HE : Hid _ := divide_any h hA hB oA oB hb2 ha2
 obtain ⟨a1, c1, rfl, -, -⟩ := hA.sl
 obtain ⟨a2, c2, rfl, -, -⟩ := hB.sl
 have HQ : Hid (quoF mo s A B = ((dvF mo s A B).dg, (dvF mo s A B).s)) := rfl
 obtain ⟨d, hd⟩ : ∃ q, q = dvF mo s A B := ⟨_, rfl⟩
 obtain ⟨q, hq⟩ : ∃ q, q = quoF mo s A B := ⟨_, rfl⟩
 rw [← hd] at HE HQ
 rw [← hq] at HQ ⊢
 clear h hA hB oA oB hb2 ha2 hd hq
 go_enter Tryz.func111, Tryz.ntmps111
 go_wp2_with fail
 refine Calls.mono HE.out ?_
 rintro ev w2 ⟨u, b1, n1, e1, b2, n2, e2, rfl, F2, hW, -, -, -, hG, hC⟩
 have HF : Hid (∀ w3, Below w2.heap.size w2 w3 → ∃ F', Wd w3 (FG F' gs) u q.1 ∧ Gn w3 F' gs g mo q.2 ∧ Ch w w3 (FG F gs) (FG F' gs)) := fun w3 hb => by
  rw [HQ.out]
  exact ⟨F2, hW.below hb, hG.below hb, hC.trans (Ch.of_below _ hb)⟩
 clear hW hG hC HE
 go_wp2_with fail
 go_ret
 exact ⟨_, rfl, HF.out _ (by go_grown)⟩
def remF (mo : Nat) (s : Gz) (A B : List Int) : List Int × Gz :=
 ((bhF mo (dvF mo s A B).s (dvF mo s A B).lf (dvF mo s A B).fs (dvF mo s A B).fi (shortF B).length).1 ++ List.replicate (A.length - (bhF mo (dvF mo s A B).s (dvF mo s A B).lf (dvF mo s A B).fs (dvF mo s A B).fi (shortF B).length).1.length) 0, (bhF mo (dvF mo s A B).s (dvF mo s A B).lf (dvF mo s A B).fs (dvF mo s A B).fi (shortF B).length).2)
theorem rem_in (hp : 0 < s.ks.length) (hB : B.length ≤ 20000) (oA : Oks s A) (oB : Oks s B) : WOk (dvF mo s A B).s (bhF mo (dvF mo s A B).s (dvF mo s A B).lf (dvF mo s A B).fs (dvF mo s A B).fi (shortF B).length) (min (shortF B).length (dvF mo s A B).lf.length) ∧ (dvF mo s A B).lf.length ≤ A.length := by
 have h := dvF_ok (mo := mo) hp hB oA oB
 have hp1 : 0 < (dvF mo s A B).s.ks.length := by have := h.pre.length_le; omega
 exact ⟨bh_wok hp1 h.fl h.okl h.okf h.oki, dvK_lf hp (Nat.le_trans shortF_len hB) oA oB.short _⟩
theorem rem_wok (hp : 0 < s.ks.length) (hB : B.length ≤ 20000) (oA : Oks s A) (oB : Oks s B) : WOk s (remF mo s A B) A.length := by
 have h := dvF_ok (mo := mo) hp hB oA oB
 have hp1 : 0 < (dvF mo s A B).s.ks.length := by have := h.pre.length_le; omega
 obtain ⟨h1, h2⟩ := rem_in (mo := mo) hp hB oA oB
 have hp2 : 0 < (bhF mo (dvF mo s A B).s (dvF mo s A B).lf (dvF mo s A B).fs (dvF mo s A B).fi (shortF B).length).2.ks.length := by have := h1.pre.length_le; omega
 refine ⟨h.pre.trans h1.pre, ?_, Oks.app h1.ok (Oks.rep (OkG.zero hp2) _)⟩
 show (_ ++ _ : List Int).length = _
 rw [List.length_append, List.length_replicate, h1.len]
 omega
theorem rest_any (h : Gn w F gs g mo s) (hA : Wd w (FG F gs) ua A) (hB : Wd w (FG F gs) ub B) (oA : Oks s A) (oB : Oks s B) (hb2 : B.length ≤ 20000) (ha2 : A.length ≤ 20000) :
  Calls Tryz.prog 112 #[.pointer (some ⟨gs, 0, none⟩), ua, ub] w (WG w F gs g mo (remF mo s A B)) := by
 have HE : Hid _ := divide_any h hA hB oA oB hb2 ha2
 have hdk := dvF_ok (mo := mo) h.pos hb2 oA oB
 obtain ⟨r1, r2⟩ := rem_in (mo := mo) h.pos hb2 oA oB
 have HB : Hid _ := hB
 have hsl : (shortF B).length ≤ 20000 := Nat.le_trans shortF_len hb2
 obtain ⟨a1, c1, rfl, -, -⟩ := hA.sl
 obtain ⟨a2, c2, rfl, -, -⟩ := hB.sl
 obtain ⟨d, hd⟩ : ∃ q, q = dvF mo s A B := ⟨_, rfl⟩
 obtain ⟨q, hq⟩ : ∃ q, q = remF mo s A B := ⟨_, rfl⟩
 rw [← hq]
 have HQ : Hid (q = ((bhF mo d.s d.lf d.fs d.fi (shortF B).length).1 ++ List.replicate (A.length - (bhF mo d.s d.lf d.fs d.fi (shortF B).length).1.length) 0, (bhF mo d.s d.lf d.fs d.fi (shortF B).length).2)) := by unfold Hid; rw [hq, hd]; rfl
 rw [← hd] at HE hdk r1 r2
 have HBH : Hid (∀ wx F2 b1 n1 e1 b2 n2 e2, Gn wx F2 gs g mo d.s → Wd wx (FG F2 gs) (.slice b1 n1 e1) d.lf → Wd wx (FG F2 gs) (.slice b2 n2 e2) d.fs → ((Value.slice b1 n1 e1 = .slice none 0 0 ∧ Value.slice b2 n2 e2 = .slice none 0 0) ∨ 0 < d.lf.length) → Calls Tryz.prog 144 #[.pointer (some ⟨gs, 0, none⟩), .agg #[.slice b1 n1 e1, .slice b2 n2 e2, .int .i64 d.fi], .int .i64 ((shortF B).length : Int)] wx (WG wx F2 gs g mo (bhF mo d.s d.lf d.fs d.fi (shortF B).length))) := fun wx F2 b1 n1 e1 b2 n2 e2 hG h1 h2 h3 => behind_any hG h1 h2 hdk.fl hdk.okl hdk.okf hdk.oki (by omega) h3
 obtain ⟨R, hR⟩ : ∃ q, q = bhF mo d.s d.lf d.fs d.fi (shortF B).length := ⟨_, rfl⟩
 rw [← hR] at HBH HQ r1
 have hRl : R.1.length ≤ A.length := by rw [r1.len]; omega
 obtain ⟨n, hn⟩ : ∃ q, q = A.length := ⟨_, rfl⟩
 obtain ⟨m, hm⟩ : ∃ q, q = R.1.length := ⟨_, rfl⟩
 rw [← hn] at HQ hRl ha2 HE ⊢
 rw [← hm] at HQ hRl
 have HM : Hid _ := hm
 obtain ⟨sb, hsb⟩ : ∃ q, q = (shortF B).length := ⟨_, rfl⟩
 rw [← hsb] at HBH hsl
 have HSB : Hid _ := hsb
 have HEX : Hid (∀ wx F2 u, Gn wx F2 gs g mo R.2 → Wd wx (FG F2 gs) u R.1 → Calls Tryz.prog 103 #[u, .int .i64 ((n - m : Nat) : Int), .int .i64 0] wx fun ev w' => ∃ u', ev = .returned u' ∧ Wd w' (FG F2 gs) u' (R.1 ++ List.replicate (n - m) 0) ∧ Below wx.heap.size wx w') := fun wx F2 u hG hu => extended_any hu (by rw [← hm]; omega) hG.fd
 have eI : ((n - m : Nat) : Int) = (n : Int) - (m : Int) := by omega
 rw [eI] at HEX
 clear h hA hB oA oB hb2 hd hq hR hn hm hsb hdk r1 r2 eI
 go_enter Tryz.func112, Tryz.ntmps112
 go_wp2_with fail
 refine Calls.mono HE.out ?_
 rintro ev w2 ⟨u, b1, n1, e1, b2, n2, e2, rfl, F2, hW, hL, hF, hnl, hG, hC⟩
 have HS : Hid (Wd w2 (FG F2 gs) (.slice b1 n1 e1) d.lf ∧ Wd w2 (FG F2 gs) (.slice b2 n2 e2) d.fs ∧ ((Value.slice b1 n1 e1 = .slice none 0 0 ∧ Value.slice b2 n2 e2 = .slice none 0 0) ∨ 0 < d.lf.length) ∧ Gn w2 F2 gs g mo d.s ∧ Ch w w2 (FG F gs) (FG F2 gs)) := ⟨hL, hF, hnl, hG, hC⟩
 clear hW hL hF hnl hG hC HE
 go_wp2_with fail
 obtain ⟨wb, hwb⟩ : ∃ wb, wb = w2.alloc (Obj.cells #[Value.slice b1 n1 e1, Value.slice b2 n2 e2, Value.int IntKind.i64 d.fi] 162) := ⟨_, rfl⟩
 rw [← hwb]
 have hnew : wb.heap[w2.heap.size]? = some (Obj.cells #[Value.slice b1 n1 e1, Value.slice b2 n2 e2, Value.int IntKind.i64 d.fi] 162) := by rw [hwb]; exact heap_alloc_new w2 _
 have HBW : Hid (Below w2.heap.size w2 wb) := by unfold Hid; rw [hwb]; go_grown
 have HSB2 : Hid (∀ wx, Below w2.heap.size w2 wx → Calls Tryz.prog 145 #[.slice a2 B.length c2] wx fun ev w' => ∃ a' c', ev = .returned (.slice a' sb c') ∧ w' = wx) := fun wx hb => (shortened_any ((HB.out.ch HS.out.2.2.2.2).below hb)).mono (by
  rintro ev w' ⟨u', e1, e2, e3⟩
  obtain ⟨a', c', e, -, -⟩ := e2.sl
  rw [← HSB.out] at e
  exact ⟨a', c', by rw [e1, e], e3⟩)
 obtain ⟨d0, d1, d2⟩ : wb.drew.cell? ⟨w2.heap.size, 0, none⟩ = some (.slice b1 n1 e1) ∧ wb.drew.cell? ⟨w2.heap.size, 1, none⟩ = some (.slice b2 n2 e2) ∧ wb.drew.cell? ⟨w2.heap.size, 2, none⟩ = some (.int .i64 d.fi) := ⟨cell_of (w := wb.drew) hnew 0 rfl, cell_of (w := wb.drew) hnew 1 rfl, cell_of (w := wb.drew) hnew 2 rfl⟩
 clear hwb hnew
 have HX : Hid (Below w2.heap.size w2 wb.drew) := HBW.out.trans ((drew_b _).mono HBW.out.size)
 go_region_with (first | (go_at_call 145; refine (HSB2.out _ HX.out).mono ?_; rintro ev wz ⟨a7, c7, rfl, hz⟩; rw [hz]; clear hz wz) | (go_at_call 144; refine (HBH.out _ _ _ _ _ _ _ _ (HS.out.2.2.2.1.below HX.out) (HS.out.1.below HX.out) (HS.out.2.1.below HX.out) HS.out.2.2.1).mono ?_; rintro ev w5 ⟨u5, rfl, F5, hW5, hG5, hC5⟩; obtain ⟨a5, c5, e5, -, -⟩ := hW5.sl; rw [← HM.out] at e5; subst e5))
 all_goals
  have HE2 : Hid _ := HEX.out w5 F5 _ hG5 hW5
  have HC5 : Hid (Ch w w5 (FG F gs) (FG F5 gs) ∧ Gn w5 F5 gs g mo R.2) := ⟨(HS.out.2.2.2.2.trans (Ch.of_below _ HX.out)).trans hC5, hG5⟩
  clear hW5 hG5 hC5 d0 d1 d2
  go_wp2_with fail
  refine Calls.mono HE2.out ?_
  rintro ev w6 ⟨u6, rfl, hW6, hb6⟩
  have HF : Hid (∃ F', Wd w6 (FG F' gs) u6 q.1 ∧ Gn w6 F' gs g mo q.2 ∧ Ch w w6 (FG F gs) (FG F' gs)) := by
   rw [HQ.out]
   exact ⟨F5, hW6, HC5.out.2.below hb6, HC5.out.1.trans (Ch.of_below _ hb6)⟩
  clear hW6 hb6
  go_wp2_with fail
  go_ret
  exact ⟨_, rfl, HF.out⟩
end
open Go.RowKit
section
variable {w : World} {F : Nat → Prop} {gs g mo : Nat} {s : Gz} {ua ub : Value} {A B : List Int}
def topO (A : List Int) : Int := A.getD (A.length - 1) 0
theorem topO_ok (hp : 0 < s.ks.length) (h : Oks s A) : OkG s (topO A) := getD_okz hp h
def szA (mo : Nat) (s : Gz) (A : List Int) : List Int × Gz := negF mo s (topO A) A
theorem szA_ok (hp : 0 < s.ks.length) : WOk s (szA mo s A) A.length := neg_wok hp
def sremF (mo : Nat) (s : Gz) (A B : List Int) : List Int × Gz :=
 negF mo (remF mo (szA mo (szA mo s A).2 B).2 (szA mo s A).1 (szA mo (szA mo s A).2 B).1).2 (topO A) (remF mo (szA mo (szA mo s A).2 B).2 (szA mo s A).1 (szA mo (szA mo s A).2 B).1).1
def squoF (mo : Nat) (s : Gz) (A B : List Int) : List Int × Gz :=
 negF mo (quoF mo (szA mo (szA mo (gXor mo s (topO A) (topO B)).2 A).2 B).2 (szA mo (gXor mo s (topO A) (topO B)).2 A).1 (szA mo (szA mo (gXor mo s (topO A) (topO B)).2 A).2 B).1).2 (gXor mo s (topO A) (topO B)).1 (quoF mo (szA mo (szA mo (gXor mo s (topO A) (topO B)).2 A).2 B).2 (szA mo (gXor mo s (topO A) (topO B)).2 A).1 (szA mo (szA mo (gXor mo s (topO A) (topO B)).2 A).2 B).1).1
theorem pos_of {s s' : Gz} (h : Pg s.ks s'.ks) (hp : 0 < s.ks.length) : 0 < s'.ks.length := by have := h.length_le; omega
theorem sz2_ok (hp : 0 < s.ks.length) (hb2 : B.length ≤ 20000) : Pg s.ks (szA mo (szA mo s A).2 B).2.ks ∧ (szA mo s A).1.length = A.length ∧ (szA mo (szA mo s A).2 B).1.length = B.length ∧ Oks (szA mo (szA mo s A).2 B).2 (szA mo s A).1 ∧ Oks (szA mo (szA mo s A).2 B).2 (szA mo (szA mo s A).2 B).1 := by
 have h1 := szA_ok (mo := mo) (A := A) hp
 have h2 := szA_ok (mo := mo) (A := B) (pos_of h1.pre hp)
 exact ⟨h1.pre.trans h2.pre, h1.len, h2.len, Oks.grow h1.ok h2.pre, h2.ok⟩
theorem srem_wok (hp : 0 < s.ks.length) (hb2 : B.length ≤ 20000) : WOk s (sremF mo s A B) A.length := by
 obtain ⟨h1, h2, h3, h4, h5⟩ := sz2_ok (mo := mo) (A := A) hp hb2
 have k1 := rem_wok (mo := mo) (pos_of h1 hp) (by omega) h4 h5
 have k2 := neg_wok (mo := mo) (c := topO A) (A := (remF mo (szA mo (szA mo s A).2 B).2 (szA mo s A).1 (szA mo (szA mo s A).2 B).1).1) (pos_of (h1.trans k1.pre) hp)
 have hl := k2.len
 rw [k1.len, h2] at hl
 exact ⟨(h1.trans k1.pre).trans k2.pre, hl, k2.ok⟩
theorem squo_wok (hp : 0 < s.ks.length) (hb2 : B.length ≤ 20000) : WOk s (squoF mo s A B) A.length := by
 obtain ⟨x1, x2⟩ := gXor_grow (mo := mo) (a := topO A) (b := topO B) hp
 have hp1 := pos_of x1 hp
 obtain ⟨h1, h2, h3, h4, h5⟩ := sz2_ok (mo := mo) (s := (gXor mo s (topO A) (topO B)).2) (A := A) hp1 hb2
 have k1 := quo_wok (mo := mo) (pos_of h1 hp1) (by omega) h4 h5
 have k2 := neg_wok (mo := mo) (c := (gXor mo s (topO A) (topO B)).1) (A := (quoF mo (szA mo (szA mo (gXor mo s (topO A) (topO B)).2 A).2 B).2 (szA mo (gXor mo s (topO A) (topO B)).2 A).1 (szA mo (szA mo (gXor mo s (topO A) (topO B)).2 A).2 B).1).1) (pos_of (h1.trans k1.pre) hp1)
 have hl := k2.len
 rw [k1.len, h2] at hl
 exact ⟨((x1.trans h1).trans k1.pre).trans k2.pre, hl, k2.ok⟩
theorem signedRest_any (h : Gn w F gs g mo s) (hA : Wd w (FG F gs) ua A) (hB : Wd w (FG F gs) ub B) (oA : Oks s A) (oB : Oks s B) (hb2 : B.length ≤ 20000) (ha2 : A.length ≤ 20000) (hna : 0 < A.length) (hnb : 0 < B.length) :
  Calls Tryz.prog 114 #[.pointer (some ⟨gs, 0, none⟩), ua, ub] w (WG w F gs g mo (sremF mo s A B)) := by
 have hpos := h.pos
 have HTA : Hid (∀ wx, Below w.heap.size w wx → Calls Tryz.prog 104 #[ua] wx fun ev w' => ev = .returned (.int .i64 (topO A)) ∧ w' = wx) := fun wx hb => top_any (hA.below hb) hna
 have HTB : Hid (∀ wx, Below w.heap.size w wx → Calls Tryz.prog 104 #[ub] wx fun ev w' => ev = .returned (.int .i64 (topO B)) ∧ w' = wx) := fun wx hb => top_any (hB.below hb) hnb
 have oTA := topO_ok hpos oA
 have oTB := topO_ok hpos oB
 have H : Hid _ := h
 have HA : Hid _ := hA
 have HB : Hid _ := hB
 obtain ⟨q, hq⟩ : ∃ q, q = sremF mo s A B := ⟨_, rfl⟩
 rw [← hq]
 have HQ := hq
 unfold sremF at HQ
 have hpX := hpos
 have k1 := szA_ok (mo := mo) (s := s) (A := A) hpX
 have k2 := szA_ok (mo := mo) (A := B) (pos_of k1.pre hpX)
 have HS1 : Hid (∀ wx F2, Gn wx F2 gs g mo s → Ch w wx (FG F gs) (FG F2 gs) → Calls Tryz.prog 146 #[.pointer (some ⟨gs, 0, none⟩), ua] wx (WG wx F2 gs g mo (szA mo s A))) := fun wx F2 hG hC => size_any hG (hA.ch hC) oA hna
 have HS2 : Hid (∀ wx F2, Gn wx F2 gs g mo (szA mo s A).2 → Ch w wx (FG F gs) (FG F2 gs) → Calls Tryz.prog 146 #[.pointer (some ⟨gs, 0, none⟩), ub] wx (WG wx F2 gs g mo (szA mo (szA mo s A).2 B))) := fun wx F2 hG hC => size_any hG (hB.ch hC) (oB.grow k1.pre) hnb
 obtain ⟨a', ha'⟩ : ∃ y, y = szA mo s A := ⟨_, rfl⟩
 rw [← ha'] at HS1 HS2 k1 k2 HQ
 obtain ⟨b', hb'⟩ : ∃ y, y = szA mo a'.2 B := ⟨_, rfl⟩
 rw [← hb'] at HS2 k2 HQ
 have k3 := rem_wok (mo := mo) (s := b'.2) (A := a'.1) (B := b'.1) (pos_of (k1.pre.trans k2.pre) hpX) (by rw [k2.len]; exact hb2) (Oks.grow k1.ok k2.pre) k2.ok
 have HIN : Hid (∀ wx F2 u1 u2, Gn wx F2 gs g mo b'.2 → Wd wx (FG F2 gs) u1 a'.1 → Wd wx (FG F2 gs) u2 b'.1 → Calls Tryz.prog 112 #[.pointer (some ⟨gs, 0, none⟩), u1, u2] wx (WG wx F2 gs g mo (remF mo b'.2 a'.1 b'.1))) := fun wx F2 u1 u2 hG h1 h2 => rest_any hG h1 h2 (Oks.grow k1.ok k2.pre) k2.ok (by rw [k2.len]; exact hb2) (by rw [k1.len]; exact ha2)
 obtain ⟨R, hR⟩ : ∃ y, y = remF mo b'.2 a'.1 b'.1 := ⟨_, rfl⟩
 rw [← hR] at HIN HQ k3
 have HQ2 : Hid (q = negF mo R.2 (topO A) R.1) := HQ
 have HNE : Hid (∀ wx F2 u1, Gn wx F2 gs g mo R.2 → Wd wx (FG F2 gs) u1 R.1 → Calls Tryz.prog 101 #[.pointer (some ⟨gs, 0, none⟩), .int .i64 (topO A), u1] wx (WG wx F2 gs g mo q)) := fun wx F2 u1 hG h1 => by
  rw [HQ2.out]
  exact negated_any hG h1 k3.ok (oTA.grow ((k1.pre.trans k2.pre).trans k3.pre))
 obtain ⟨tA, htA⟩ : ∃ t, t = topO A := ⟨_, rfl⟩
 obtain ⟨tB, htB⟩ : ∃ t, t = topO B := ⟨_, rfl⟩
 rw [← htA] at HTA HNE
 rw [← htB] at HTB
 obtain ⟨a1, c1, rfl, -, -⟩ := hA.sl
 obtain ⟨a2, c2, rfl, -, -⟩ := hB.sl
 clear h hA hB oA oB hb2 ha2 hna hnb oTA oTB hpX k1 k2 k3 ha' hb' hR hq HQ HQ2 htA htB
 go_enter Tryz.func114, Tryz.ntmps114
 go_wp2_with fail
 refine (HTA.out _ (Below.refl _ _)).mono ?_
 rintro ev wz ⟨rfl, hz⟩
 rw [hz]
 clear hz wz
 go_wp2_with fail
 refine (HS1.out w F H.out (Ch.refl _ _)).mono ?_
 rintro ev w2 ⟨u2, rfl, F2, hW2, hG2, hC2⟩
 have HE2 : Hid _ := HS2.out w2 F2 hG2 hC2
 have HW2 : Hid (Wd w2 (FG F2 gs) u2 a'.1) := hW2
 have HC2 : Hid (Ch w w2 (FG F gs) (FG F2 gs)) := hC2
 clear hW2 hG2 hC2
 go_wp2_with fail
 refine Calls.mono HE2.out ?_
 rintro ev w3 ⟨u3, rfl, F3, hW3, hG3, hC3⟩
 have HE3 : Hid _ := HIN.out w3 F3 u2 u3 hG3 (HW2.out.ch hC3) hW3
 have HC3 : Hid (Ch w w3 (FG F gs) (FG F3 gs)) := HC2.out.trans hC3
 clear hW3 hG3 hC3 HE2
 go_wp2_with fail
 refine Calls.mono HE3.out ?_
 rintro ev w4 ⟨u4, rfl, F4, hW4, hG4, hC4⟩
 have HE4 : Hid _ := HNE.out w4 F4 u4 hG4 hW4
 have HC4 : Hid (Ch w w4 (FG F gs) (FG F4 gs)) := HC3.out.trans hC4
 clear hW4 hG4 hC4 HE3
 go_wp2_with fail
 refine Calls.mono HE4.out ?_
 rintro ev w5 ⟨u5, rfl, F5, hW5, hG5, hC5⟩
 have HF : Hid (∃ F', Wd w5 (FG F' gs) u5 q.1 ∧ Gn w5 F' gs g mo q.2 ∧ Ch w w5 (FG F gs) (FG F' gs)) := ⟨F5, hW5, hG5, HC4.out.trans hC5⟩
 clear hW5 hG5 hC5 HE4
 go_wp2_with fail
 go_ret
 exact ⟨_, rfl, HF.out⟩
theorem signedQuotient_any (h : Gn w F gs g mo s) (hA : Wd w (FG F gs) ua A) (hB : Wd w (FG F gs) ub B) (oA : Oks s A) (oB : Oks s B) (hb2 : B.length ≤ 20000) (ha2 : A.length ≤ 20000) (hna : 0 < A.length) (hnb : 0 < B.length) :
  Calls Tryz.prog 113 #[.pointer (some ⟨gs, 0, none⟩), ua, ub] w (WG w F gs g mo (squoF mo s A B)) := by
 have hpos := h.pos
 have HTA : Hid (∀ wx, Below w.heap.size w wx → Calls Tryz.prog 104 #[ua] wx fun ev w' => ev = .returned (.int .i64 (topO A)) ∧ w' = wx) := fun wx hb => top_any (hA.below hb) hna
 have HTB : Hid (∀ wx, Below w.heap.size w wx → Calls Tryz.prog 104 #[ub] wx fun ev w' => ev = .returned (.int .i64 (topO B)) ∧ w' = wx) := fun wx hb => top_any (hB.below hb) hnb
 have oTA := topO_ok hpos oA
 have oTB := topO_ok hpos oB
 have H : Hid _ := h
 have HA : Hid _ := hA
 have HB : Hid _ := hB
 obtain ⟨q, hq⟩ : ∃ q, q = squoF mo s A B := ⟨_, rfl⟩
 rw [← hq]
 have HQ := hq
 unfold squoF at HQ
 obtain ⟨x1, x2⟩ := gXor_grow (mo := mo) (a := topO A) (b := topO B) hpos
 have HX : Hid _ := gxor_any h oTA oTB
 obtain ⟨X, hX⟩ : ∃ y, y = gXor mo s (topO A) (topO B) := ⟨_, rfl⟩
 rw [← hX] at HX HQ x1 x2
 have hpX : 0 < X.2.ks.length := pos_of x1 hpos
 have k1 := szA_ok (mo := mo) (s := X.2) (A := A) hpX
 have k2 := szA_ok (mo := mo) (A := B) (pos_of k1.pre hpX)
 have HS1 : Hid (∀ wx F2, Gn wx F2 gs g mo X.2 → Ch w wx (FG F gs) (FG F2 gs) → Calls Tryz.prog 146 #[.pointer (some ⟨gs, 0, none⟩), ua] wx (WG wx F2 gs g mo (szA mo X.2 A))) := fun wx F2 hG hC => size_any hG (hA.ch hC) (oA.grow x1) hna
 have HS2 : Hid (∀ wx F2, Gn wx F2 gs g mo (szA mo X.2 A).2 → Ch w wx (FG F gs) (FG F2 gs) → Calls Tryz.prog 146 #[.pointer (some ⟨gs, 0, none⟩), ub] wx (WG wx F2 gs g mo (szA mo (szA mo X.2 A).2 B))) := fun wx F2 hG hC => size_any hG (hB.ch hC) ((oB.grow x1).grow k1.pre) hnb
 obtain ⟨a', ha'⟩ : ∃ y, y = szA mo X.2 A := ⟨_, rfl⟩
 rw [← ha'] at HS1 HS2 k1 k2 HQ
 obtain ⟨b', hb'⟩ : ∃ y, y = szA mo a'.2 B := ⟨_, rfl⟩
 rw [← hb'] at HS2 k2 HQ
 have k3 := quo_wok (mo := mo) (s := b'.2) (A := a'.1) (B := b'.1) (pos_of (k1.pre.trans k2.pre) hpX) (by rw [k2.len]; exact hb2) (Oks.grow k1.ok k2.pre) k2.ok
 have HIN : Hid (∀ wx F2 u1 u2, Gn wx F2 gs g mo b'.2 → Wd wx (FG F2 gs) u1 a'.1 → Wd wx (FG F2 gs) u2 b'.1 → Calls Tryz.prog 111 #[.pointer (some ⟨gs, 0, none⟩), u1, u2] wx (WG wx F2 gs g mo (quoF mo b'.2 a'.1 b'.1))) := fun wx F2 u1 u2 hG h1 h2 => quotient_any hG h1 h2 (Oks.grow k1.ok k2.pre) k2.ok (by rw [k2.len]; exact hb2) (by rw [k1.len]; exact ha2)
 obtain ⟨R, hR⟩ : ∃ y, y = quoF mo b'.2 a'.1 b'.1 := ⟨_, rfl⟩
 rw [← hR] at HIN HQ k3
 have HQ2 : Hid (q = negF mo R.2 X.1 R.1) := HQ
 have HNE : Hid (∀ wx F2 u1, Gn wx F2 gs g mo R.2 → Wd wx (FG F2 gs) u1 R.1 → Calls Tryz.prog 101 #[.pointer (some ⟨gs, 0, none⟩), .int .i64 X.1, u1] wx (WG wx F2 gs g mo q)) := fun wx F2 u1 hG h1 => by
  rw [HQ2.out]
  exact negated_any hG h1 k3.ok (x2.grow ((k1.pre.trans k2.pre).trans k3.pre))
 obtain ⟨tA, htA⟩ : ∃ t, t = topO A := ⟨_, rfl⟩
 obtain ⟨tB, htB⟩ : ∃ t, t = topO B := ⟨_, rfl⟩
 rw [← htA] at HTA
 rw [← htB] at HTB
 rw [← htA, ← htB] at HX
 obtain ⟨a1, c1, rfl, -, -⟩ := hA.sl
 obtain ⟨a2, c2, rfl, -, -⟩ := hB.sl
 clear h hA hB oA oB hb2 ha2 hna hnb oTA oTB hpX k1 k2 k3 ha' hb' hR hq HQ HQ2 htA htB hX x1 x2
 go_enter Tryz.func113, Tryz.ntmps113
 go_wp2_with fail
 refine (HTA.out _ (Below.refl _ _)).mono ?_
 rintro ev wz ⟨rfl, hz⟩
 rw [hz]
 clear hz wz
 go_wp2_with fail
 refine (HTB.out _ (Below.refl _ _)).mono ?_
 rintro ev wz ⟨rfl, hz⟩
 rw [hz]
 clear hz wz
 go_wp2_with fail
 refine Calls.mono HX.out ?_
 rintro ev w1 ⟨rfl, F1, hG1, hC1⟩
 have HE1 : Hid _ := HS1.out w1 F1 hG1 hC1
 have HC1 : Hid (Ch w w1 (FG F gs) (FG F1 gs)) := hC1
 clear hG1 hC1 HX
 go_wp2_with fail
 refine Calls.mono HE1.out ?_
 rintro ev w2 ⟨u2, rfl, F2, hW2, hG2, hC2⟩
 have hC2 : Ch w w2 (FG F gs) (FG F2 gs) := HC1.out.trans hC2
 have HE2 : Hid _ := HS2.out w2 F2 hG2 hC2
 have HW2 : Hid (Wd w2 (FG F2 gs) u2 a'.1) := hW2
 have HC2 : Hid (Ch w w2 (FG F gs) (FG F2 gs)) := hC2
 clear hW2 hG2 hC2
 go_wp2_with fail
 refine Calls.mono HE2.out ?_
 rintro ev w3 ⟨u3, rfl, F3, hW3, hG3, hC3⟩
 have HE3 : Hid _ := HIN.out w3 F3 u2 u3 hG3 (HW2.out.ch hC3) hW3
 have HC3 : Hid (Ch w w3 (FG F gs) (FG F3 gs)) := HC2.out.trans hC3
 clear hW3 hG3 hC3 HE2
 go_wp2_with fail
 refine Calls.mono HE3.out ?_
 rintro ev w4 ⟨u4, rfl, F4, hW4, hG4, hC4⟩
 have HE4 : Hid _ := HNE.out w4 F4 u4 hG4 hW4
 have HC4 : Hid (Ch w w4 (FG F gs) (FG F4 gs)) := HC3.out.trans hC4
 clear hW4 hG4 hC4 HE3
 go_wp2_with fail
 refine Calls.mono HE4.out ?_
 rintro ev w5 ⟨u5, rfl, F5, hW5, hG5, hC5⟩
 have HF : Hid (∃ F', Wd w5 (FG F' gs) u5 q.1 ∧ Gn w5 F' gs g mo q.2 ∧ Ch w w5 (FG F gs) (FG F' gs)) := ⟨F5, hW5, hG5, HC4.out.trans hC5⟩
 clear hW5 hG5 hC5 HE4
 go_wp2_with fail
 go_ret
 exact ⟨_, rfl, HF.out⟩
def smodF (mo : Nat) (s : Gz) (A B : List Int) : List Int × Gz :=
 let r := sremF mo s A B
 let y := anyF mo r.2 r.1
 let x := gXor mo y.2 (topO A) (topO B)
 let z := gAnd mo x.2 y.1 x.1
 let m := wmaskedF mo z.2 z.1 B
 sumF mo m.2 r.1 m.1
theorem smod_wok (hp : 0 < s.ks.length) (hb2 : B.length ≤ 20000) (oB : Oks s B) : WOk s (smodF mo s A B) A.length := by
 have h1 := srem_wok (mo := mo) (A := A) hp hb2
 obtain ⟨r, hr⟩ : ∃ r, r = sremF mo s A B := ⟨_, rfl⟩
 rw [← hr] at h1
 have hp1 := pos_of h1.pre hp
 obtain ⟨y1, y2⟩ := anyF_ok (mo := mo) (L := r.1) hp1
 have hp2 := pos_of y1 hp1
 obtain ⟨x1, x2⟩ := gXor_grow (mo := mo) (a := topO A) (b := topO B) hp2
 have hp3 := pos_of x1 hp2
 have z1 := gAnd_pre (mo := mo) (s := (gXor mo (anyF mo r.2 r.1).2 (topO A) (topO B)).2) (a := (anyF mo r.2 r.1).1) (b := (gXor mo (anyF mo r.2 r.1).2 (topO A) (topO B)).1)
 have z2 := gAnd_ok (mo := mo) (a := (anyF mo r.2 r.1).1) (b := (gXor mo (anyF mo r.2 r.1).2 (topO A) (topO B)).1) hp3
 have hp4 := pos_of z1 hp3
 have hall := ((h1.pre.trans y1).trans x1).trans z1
 have m1 := wmasked_wok (mo := mo) (A := B) hp4 z2 (oB.grow hall)
 have k := sum_wok (mo := mo) (s := (wmaskedF mo (gAnd mo (gXor mo (anyF mo r.2 r.1).2 (topO A) (topO B)).2 (anyF mo r.2 r.1).1 (gXor mo (anyF mo r.2 r.1).2 (topO A) (topO B)).1).2 (gAnd mo (gXor mo (anyF mo r.2 r.1).2 (topO A) (topO B)).2 (anyF mo r.2 r.1).1 (gXor mo (anyF mo r.2 r.1).2 (topO A) (topO B)).1).1 B).2) (A := r.1) (B := (wmaskedF mo (gAnd mo (gXor mo (anyF mo r.2 r.1).2 (topO A) (topO B)).2 (anyF mo r.2 r.1).1 (gXor mo (anyF mo r.2 r.1).2 (topO A) (topO B)).1).2 (gAnd mo (gXor mo (anyF mo r.2 r.1).2 (topO A) (topO B)).2 (anyF mo r.2 r.1).1 (gXor mo (anyF mo r.2 r.1).2 (topO A) (topO B)).1).1 B).1) (pos_of m1.pre hp4)
 rw [h1.len] at k
 unfold smodF
 rw [← hr]
 exact ⟨(hall.trans m1.pre).trans k.pre, k.len, k.ok⟩
end
end Go.Proofs.YtcahhahbcijkiaaGreat.Ag
