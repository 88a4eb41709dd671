import Derived.Test.YtcahhahbcijkiaaGreatBLF
namespace Go.Proofs.YtcahhahbcijkiaaGreat.Ag
set_option maxHeartbeats 12800000
set_option maxRecDepth 100000
open Go.RowKit
set_option linter.unusedSimpArgs false
set_option linter.unusedVariables false
section
variable {w : World} {F : Nat → Prop} {gs g mo : Nat} {s : Gz} {ua ub : Value} {A B : List Int}
def turnP (p : List Int × Gz) : List Int × Gz := (p.1.map tu, p.2)
theorem WOk.turnP {p : List Int × Gz} {n : Nat} (h : WOk s p n) : WOk s (turnP p) n := ⟨h.pre, by show (List.map tu _).length = _; rw [List.length_map]; exact h.len, Oks.tu h.ok⟩
theorem greater_any (h : Gn w F gs g mo s) (hA : Wd w (FG F gs) ua A) (hB : Wd w (FG F gs) ub B) (hl : A.length = B.length) (oA : Oks s A) (oB : Oks s B) :
  Calls Tryz.prog 121 #[.pointer (some ⟨gs, 0, none⟩), ua, ub] w (WG w F gs g mo (lessF mo s B A)) := by
 have HE : Hid _ := less_any h hB hA (by omega) oB oA
 obtain ⟨a1, c1, rfl, -, -⟩ := hA.sl
 obtain ⟨a2, c2, rfl, -, -⟩ := hB.sl
 obtain ⟨q, hq⟩ : ∃ q, q = lessF mo s B A := ⟨_, rfl⟩
 rw [← hq] at HE ⊢
 clear h hA hB hl oA oB hq
 go_enter Tryz.func121, Tryz.ntmps121
 go_wp2_with fail
 refine Calls.mono HE.out ?_
 rintro ev w2 ⟨u, rfl, hF⟩
 have HF : Hid _ := hF
 clear hF HE
 go_wp2_with fail
 go_ret
 exact ⟨_, rfl, HF.out⟩
theorem negation_any {pp qq : Int} (h : Gn w F gs g mo s) (hA : Wd w (FG F gs) ua A) (oA : Oks s A) :
  Calls Tryz.prog 74 #[.pointer (some ⟨gs, 0, none⟩), ua, .int .i64 pp, .int .i64 qq] w (WG w F gs g mo (negF mo s 1 A)) := by
 have HE : Hid _ := negated_any (c := 1) h hA oA ⟨by omega, by have := h.pos; omega⟩
 obtain ⟨a1, c1, rfl, -, -⟩ := hA.sl
 obtain ⟨q, hq⟩ : ∃ q, q = negF mo s 1 A := ⟨_, rfl⟩
 rw [← hq] at HE ⊢
 clear h hA oA hq
 go_enter Tryz.func74, Tryz.ntmps74
 go_wp2_with fail
 refine Calls.mono HE.out ?_
 rintro ev w2 ⟨u, rfl, hF⟩
 have HF : Hid _ := hF
 clear hF HE
 go_wp2_with fail
 go_ret
 exact ⟨_, rfl, HF.out⟩
theorem atMost_any (h : Gn w F gs g mo s) (hA : Wd w (FG F gs) ua A) (hB : Wd w (FG F gs) ub B) (hl : A.length = B.length) (oA : Oks s A) (oB : Oks s B) :
  Calls Tryz.prog 120 #[.pointer (some ⟨gs, 0, none⟩), ua, ub] w (WG w F gs g mo (turnP (lessF mo s B A))) := by
 have HE : Hid _ := less_any h hB hA (by omega) oB oA
 have hok := less_wok (mo := mo) (B := A) h.pos oB
 obtain ⟨a1, c1, rfl, -, -⟩ := hA.sl
 obtain ⟨a2, c2, rfl, -, -⟩ := hB.sl
 obtain ⟨p, hp⟩ : ∃ p, p = lessF mo s B A := ⟨_, rfl⟩
 rw [← hp] at HE hok ⊢
 obtain ⟨q, hq⟩ : ∃ q, q = turnP p := ⟨_, rfl⟩
 rw [← hq]
 have HQ : Hid (q = (p.1.map tu, p.2)) := hq
 have HOK : Hid _ := hok
 clear h hA hB hl oA oB hq hp hok
 go_enter Tryz.func120, Tryz.ntmps120
 go_wp2_with fail
 refine Calls.mono HE.out ?_
 rintro ev w2 ⟨u, rfl, F2, hW2, hG2, hC2⟩
 have HT : Hid _ := turned_any hW2 (fun x hx => hG2.sm (HOK.out.ok x hx)) hG2.fd
 obtain ⟨a3, c3, rfl, -, -⟩ := hW2.sl
 have HG2 : Hid (Gn w2 F2 gs g mo p.2) := hG2
 have HC2 : Hid (Ch w w2 (FG F gs) (FG F2 gs)) := hC2
 clear hW2 hG2 hC2 HE
 go_wp2_with fail
 refine Calls.mono HT.out ?_
 rintro ev w3 ⟨u3, rfl, hW3, hb3⟩
 have HF : Hid (∃ F', Wd w3 (FG F' gs) u3 q.1 ∧ Gn w3 F' gs g mo q.2 ∧ Ch w w3 (FG F gs) (FG F' gs)) := by
  rw [HQ.out]
  exact ⟨F2, hW3, HG2.out.below hb3, HC2.out.trans (Ch.of_below _ hb3)⟩
 clear hW3 hb3 HT
 go_wp2_with fail
 go_ret
 exact ⟨_, rfl, HF.out⟩
theorem atLeast_any (h : Gn w F gs g mo s) (hA : Wd w (FG F gs) ua A) (hB : Wd w (FG F gs) ub B) (hl : A.length = B.length) (oA : Oks s A) (oB : Oks s B) :
  Calls Tryz.prog 122 #[.pointer (some ⟨gs, 0, none⟩), ua, ub] w (WG w F gs g mo (turnP (lessF mo s A B))) := by
 have HE : Hid _ := less_any h hA hB (by omega) oA oB
 have hok := less_wok (mo := mo) (B := B) h.pos oA
 obtain ⟨a1, c1, rfl, -, -⟩ := hA.sl
 obtain ⟨a2, c2, rfl, -, -⟩ := hB.sl
 obtain ⟨p, hp⟩ : ∃ p, p = lessF mo s A B := ⟨_, rfl⟩
 rw [← hp] at HE hok ⊢
 obtain ⟨q, hq⟩ : ∃ q, q = turnP p := ⟨_, rfl⟩
 rw [← hq]
 have HQ : Hid (q = (p.1.map tu, p.2)) := hq
 have HOK : Hid _ := hok
 clear h hA hB hl oA oB hq hp hok
 go_enter Tryz.func122, Tryz.ntmps122
 go_wp2_with fail
 refine Calls.mono HE.out ?_
 rintro ev w2 ⟨u, rfl, F2, hW2, hG2, hC2⟩
 have HT : Hid _ := turned_any hW2 (fun x hx => hG2.sm (HOK.out.ok x hx)) hG2.fd
 obtain ⟨a3, c3, rfl, -, -⟩ := hW2.sl
 have HG2 : Hid (Gn w2 F2 gs g mo p.2) := hG2
 have HC2 : Hid (Ch w w2 (FG F gs) (FG F2 gs)) := hC2
 clear hW2 hG2 hC2 HE
 go_wp2_with fail
 refine Calls.mono HT.out ?_
 rintro ev w3 ⟨u3, rfl, hW3, hb3⟩
 have HF : Hid (∃ F', Wd w3 (FG F' gs) u3 q.1 ∧ Gn w3 F' gs g mo q.2 ∧ Ch w w3 (FG F gs) (FG F' gs)) := by
  rw [HQ.out]
  exact ⟨F2, hW3, HG2.out.below hb3, HC2.out.trans (Ch.of_below _ hb3)⟩
 clear hW3 hb3 HT
 go_wp2_with fail
 go_ret
 exact ⟨_, rfl, HF.out⟩
def diffF (mo : Nat) (s : Gz) (A B : List Int) : List Int × Gz := turnP (sumF mo s (A.map tu) B)
theorem diff_wok (hp : 0 < s.ks.length) : WOk s (diffF mo s A B) A.length := by
 have h := (sum_wok (mo := mo) (s := s) (A := A.map tu) (B := B) hp).turnP
 rw [List.length_map] at h
 exact h
theorem difference_any (h : Gn w F gs g mo s) (hA : Wd w (FG F gs) ua A) (hB : Wd w (FG F gs) ub B) (hl : A.length = B.length) (oA : Oks s A) (oB : Oks s B) :
  Calls Tryz.prog 109 #[.pointer (some ⟨gs, 0, none⟩), ua, ub] w (WG w F gs g mo (diffF mo s A B)) := by
 have HT : Hid _ := turned_any hA (fun x hx => h.sm (oA x hx)) h.fd
 have H : Hid _ := h
 have HB : Hid _ := hB
 have HO : Hid (Oks s (A.map tu) ∧ Oks s B ∧ (A.map tu).length ≤ B.length) := ⟨oA.tu, oB, by rw [List.length_map]; omega⟩
 have hok := sum_wok (mo := mo) (s := s) (A := A.map tu) (B := B) h.pos
 obtain ⟨a1, c1, rfl, -, -⟩ := hA.sl
 obtain ⟨a2, c2, rfl, -, -⟩ := hB.sl
 obtain ⟨q, hq⟩ : ∃ q, q = diffF mo s A B := ⟨_, rfl⟩
 rw [← hq]
 obtain ⟨p, hp⟩ : ∃ p, p = sumF mo s (A.map tu) B := ⟨_, rfl⟩
 rw [← hp] at hok
 have HQ : Hid (q = (p.1.map tu, p.2)) := by unfold Hid; rw [hq, hp]; rfl
 have HP : Hid _ := hp
 have HOK : Hid _ := hok
 clear h hA hB hl oA oB hq hok hp
 go_enter Tryz.func109, Tryz.ntmps109
 go_wp2_with fail
 refine Calls.mono HT.out ?_
 rintro ev w2 ⟨u2, rfl, hW2, hb2⟩
 have HE : Hid _ := sum_any (H.out.below hb2) hW2 (HB.out.below hb2) HO.out.2.2 HO.out.1 HO.out.2.1
 rw [← HP.out] at HE
 obtain ⟨a3, c3, e3, -, -⟩ := hW2.sl
 rw [List.length_map] at e3
 subst e3
 have HB2 : Hid (Below w.heap.size w w2) := hb2
 clear hW2 hb2 HT
 go_wp2_with fail
 refine Calls.mono HE.out ?_
 rintro ev w3 ⟨u3, rfl, F3, hW3, hG3, hC3⟩
 have HT3 : Hid _ := turned_any hW3 (fun x hx => hG3.sm (HOK.out.ok x hx)) hG3.fd
 obtain ⟨a4, c4, rfl, -, -⟩ := hW3.sl
 have HG3 : Hid (Gn w3 F3 gs g mo p.2) := hG3
 have HC3 : Hid (Ch w w3 (FG F gs) (FG F3 gs)) := (Ch.of_below _ HB2.out).trans hC3
 clear hW3 hG3 hC3 HE
 go_wp2_with fail
 refine Calls.mono HT3.out ?_
 rintro ev w4 ⟨u4, rfl, hW4, hb4⟩
 have HF : Hid (∃ F', Wd w4 (FG F' gs) u4 q.1 ∧ Gn w4 F' gs g mo q.2 ∧ Ch w w4 (FG F gs) (FG F' gs)) := by
  rw [HQ.out]
  exact ⟨F3, hW4, HG3.out.below hb4, HC3.out.trans (Ch.of_below _ hb4)⟩
 clear hW4 hb4 HT3
 go_wp2_with fail
 go_ret
 exact ⟨_, rfl, HF.out⟩
theorem size_any (h : Gn w F gs g mo s) (hA : Wd w (FG F gs) ua A) (oA : Oks s A) (hn : 0 < A.length) :
  Calls Tryz.prog 146 #[.pointer (some ⟨gs, 0, none⟩), ua] w (WG w F gs g mo (negF mo s (A.getD (A.length - 1) 0) A)) := by
 have HT : Hid _ := top_any hA hn
 have HE : Hid _ := negated_any (c := A.getD (A.length - 1) 0) h hA oA (oA _ (getD_mem (by omega)))
 obtain ⟨a1, c1, rfl, -, -⟩ := hA.sl
 obtain ⟨c, hc⟩ : ∃ c, c = A.getD (A.length - 1) 0 := ⟨_, rfl⟩
 rw [← hc] at HT HE ⊢
 obtain ⟨q, hq⟩ : ∃ q, q = negF mo s c A := ⟨_, rfl⟩
 rw [← hq] at HE ⊢
 clear h hA oA hn hc hq
 go_enter Tryz.func146, Tryz.ntmps146
 go_wp2_with fail
 refine Calls.mono HT.out ?_
 rintro ev wz ⟨rfl, hz⟩
 rw [hz]
 clear hz wz
 go_wp2_with fail
 refine Calls.mono HE.out ?_
 rintro ev w2 ⟨u, rfl, hF⟩
 have HF : Hid _ := hF
 clear hF HE
 go_wp2_with fail
 go_ret
 exact ⟨_, rfl, HF.out⟩
end
open Go.RowKit
theorem drew_b (w : World) : Below w.heap.size w w.drew := ⟨rfl, rfl, rfl, Nat.le_refl _, fun _ _ => rfl⟩
section
variable {w : World} {D : Nat → Prop} {u : Value} {L : List Int}
theorem Wd.low {a : Option Addr} {n m c : Nat} (h : Wd w D (.slice a m c) L) (hn : n ≤ L.length) (ha : a ≠ none) : Wd w D (.slice a n n) (L.take n) := by
 obtain ⟨a', c', e, h1, h5, h3, h4⟩ := h.ex
 injection e with e1 e2 e3
 subst e1
 refine ⟨a, n, by rw [List.length_take]; congr 1; omega, by rw [List.length_take]; omega, by rw [List.length_take]; omega, fun e => absurd e ha, ?_⟩
 rcases h4 with h4 | ⟨r, o, q1, q2, q3, q4⟩
 ·left; rw [h4]; simp
 ·by_cases hz : L.take n = []
  ·exact Or.inl hz
  ·refine Or.inr ⟨r, o, q1, q2, q3, fun j hj => ?_⟩
   rw [List.length_take] at hj
   rw [q4 j (by omega), List.getD_eq_getElem?_getD, List.getD_eq_getElem?_getD, List.getElem?_take_of_lt (by omega)]
def topF (L : List Int) : List Int := L.take (L.length - 1) ++ [tu (L.getD (L.length - 1) 0)]
theorem topF_len (h : 0 < L.length) : (topF L).length = L.length := by
 unfold topF
 rw [List.length_append, List.length_take]
 simp
 omega
theorem Oks.top {s : Gz} (h : Oks s L) (hn : 0 < L.length) : Oks s (topF L) := fun x hx => by
 rcases List.mem_append.1 hx with hx | hx
 ·exact h x (List.mem_of_mem_take hx)
 ·rw [List.mem_singleton.1 hx]
  exact (h _ (getD_mem (by omega))).trn
theorem topTurned_any (h : Wd w D u L) (hn : 0 < L.length) (hs : ∀ x ∈ L, Sm x) (hD : ∀ k, D k → k < w.heap.size) :
  Calls Tryz.prog 150 #[u] w fun ev w' => ∃ u', ev = .returned u' ∧ Wd w' D u' (topF L) ∧ Below w.heap.size w w' := by
 obtain ⟨-, -, -, -, h5⟩ := h.sl
 have hsm := hs _ (getD_mem (L := L) (k := L.length - 1) (by omega))
 obtain ⟨r, o, c, rfl, hr, hc⟩ := h.cell (k := L.length - 1) (by omega)
 have HLW : Hid _ := h.low (n := L.length - 1) (by omega) (by simp)
 obtain ⟨cL, -⟩ : ∃ cL : Nat, cL = c := ⟨_, rfl⟩
 have hcap : L.length ≤ c := by
  obtain ⟨a', c', e, h1, -⟩ := h.ex
  injection e with e1 e2 e3
  rw [e3]; exact h1
 obtain ⟨n, hnn⟩ : ∃ n, n + 1 = L.length := ⟨L.length - 1, by omega⟩
 have e1 : L.length - 1 = n := by omega
 rw [e1] at hc HLW hsm
 obtain ⟨x, hx⟩ : ∃ x, x = L.getD n 0 := ⟨_, rfl⟩
 rw [← hx] at hc hsm
 have HTU : Hid (∀ wx, Calls Tryz.prog 130 #[.int .i64 x] wx fun e w' => e = .returned (.int .i64 (tu x)) ∧ w' = wx) := fun wx => bturn_any (by unfold Sm at hsm; omega) (by unfold Sm at hsm; omega) wx
 have hlt : (L.take n).length = n := by rw [List.length_take]; omega
 have HEX : Hid (∀ wx, Below w.heap.size w wx → Calls Tryz.prog 103 #[.slice (some ⟨r, o, none⟩) n n, .int .i64 1, .int .i64 (tu x)] wx fun ev w' => ∃ u', ev = .returned u' ∧ Wd w' D u' (topF L) ∧ Below wx.heap.size wx w') := fun wx hb => by
  have := extended_any (l := tu x) (n := 1) (Wd.below HLW.out hb) (by rw [hlt]; omega) (fun k hk => Nat.lt_of_lt_of_le (hD k hk) hb.size)
  have e2 : topF L = L.take n ++ List.replicate 1 (tu x) := by unfold topF; rw [e1, ← hx]; rfl
  rw [e2]
  exact this
 rw [← hnn] at hcap h5 ⊢
 obtain ⟨tx, htx⟩ : ∃ t, t = tu x := ⟨_, rfl⟩
 rw [← htx] at HTU HEX
 have dc : w.drew.cell? ⟨r, o + n, none⟩ = some (.int .i64 x) := hc
 have hnc : (n : Int) ≤ (c : Int) := by omega
 clear h hn hs hD hsm HLW hnn e1 hx hlt htx
 go_enter Tryz.func150, Tryz.ntmps150
 go_wp2_with fail
 go_region_with (first | (go_at_call 130; refine (HTU.out _).mono ?_; rintro ev wz ⟨rfl, hz⟩; rw [hz]; clear hz wz) | (go_at_call 103; refine (HEX.out _ (drew_b _)).mono ?_; rintro ev w2 ⟨u2, rfl, hW2, hb2⟩))
 all_goals
  have HW : Hid (Wd w2 D u2 (topF L)) := hW2
  have hb : Below w.heap.size w w2 := (drew_b w).trans hb2
  clear hW2 hb2
  go_wp2_with fail
  go_ret
  exact ⟨_, rfl, HW.out, hb⟩
end
open Go.RowKit
section
variable {w : World} {F : Nat → Prop} {gs g mo : Nat} {s : Gz} {ua ub : Value} {A B : List Int}
def slessF (mo : Nat) (s : Gz) (A B : List Int) : List Int × Gz := lessF mo s (topF A) (topF B)
theorem sless_wok (hp : 0 < s.ks.length) (oA : Oks s A) (hn : 0 < A.length) : WOk s (slessF mo s A B) 1 := less_wok hp (oA.top hn)
theorem signedLess_any (h : Gn w F gs g mo s) (hA : Wd w (FG F gs) ua A) (hB : Wd w (FG F gs) ub B) (hl : A.length = B.length) (oA : Oks s A) (oB : Oks s B) (hn : 0 < A.length) :
  Calls Tryz.prog 123 #[.pointer (some ⟨gs, 0, none⟩), ua, ub] w (WG w F gs g mo (slessF mo s A B)) := by
 have HT : Hid _ := topTurned_any hA hn (fun x hx => h.sm (oA x hx)) h.fd
 have H : Hid _ := h
 have HB : Hid (∀ wx, Below w.heap.size w wx → Calls Tryz.prog 150 #[ub] wx fun ev w' => ∃ u', ev = .returned u' ∧ Wd w' (FG F gs) u' (topF B) ∧ Below wx.heap.size wx w') := fun wx hb => topTurned_any (hB.below hb) (by omega) (fun x hx => h.sm (oB x hx)) (h.below hb).fd
 have HO : Hid (Oks s (topF A) ∧ Oks s (topF B) ∧ (topF A).length ≤ (topF B).length) := ⟨oA.top hn, oB.top (by omega), by rw [topF_len hn, topF_len (by omega)]; omega⟩
 obtain ⟨a1, c1, rfl, -, -⟩ := hA.sl
 obtain ⟨a2, c2, rfl, -, -⟩ := hB.sl
 obtain ⟨q, hq⟩ : ∃ q, q = slessF mo s A B := ⟨_, rfl⟩
 rw [← hq]
 have HQ : Hid (q = lessF mo s (topF A) (topF B)) := hq
 clear h hA hB hl oA oB hq hn
 go_enter Tryz.func123, Tryz.ntmps123
 go_wp2_with fail
 refine Calls.mono HT.out ?_
 rintro ev w2 ⟨u2, rfl, hW2, hb2⟩
 have HB2 : Hid _ := HB.out w2 hb2
 have HW2 : Hid _ := hW2
 obtain ⟨a3, c3, rfl, -, -⟩ := hW2.sl
 have HBL : Hid (Below w.heap.size w w2) := hb2
 clear hW2 hb2 HT HB
 go_wp2_with fail
 refine Calls.mono HB2.out ?_
 rintro ev w3 ⟨u3, rfl, hW3, hb3⟩
 have hb : Below w.heap.size w w3 := HBL.out.trans (hb3.mono HBL.out.size)
 have HE : Hid _ := less_any (H.out.below hb) (HW2.out.below hb3) hW3 HO.out.2.2 HO.out.1 HO.out.2.1
 rw [← HQ.out] at HE
 obtain ⟨a4, c4, rfl, -, -⟩ := hW3.sl
 have HBM : Hid (Below w.heap.size w w3) := hb
 clear hW3 hb3 hb HB2 HW2
 go_wp2_with fail
 refine Calls.mono HE.out ?_
 rintro ev w4 ⟨u4, rfl, F4, hW4, hG4, hC4⟩
 have HF : Hid (∃ F', Wd w4 (FG F' gs) u4 q.1 ∧ Gn w4 F' gs g mo q.2 ∧ Ch w w4 (FG F gs) (FG F' gs)) := ⟨F4, hW4, hG4, (Ch.of_below _ HBM.out).trans hC4⟩
 clear hW4 hG4 hC4 HE
 go_wp2_with fail
 go_ret
 exact ⟨_, rfl, HF.out⟩
theorem signedGreater_any (h : Gn w F gs g mo s) (hA : Wd w (FG F gs) ua A) (hB : Wd w (FG F gs) ub B) (hl : A.length = B.length) (oA : Oks s A) (oB : Oks s B) (hn : 0 < A.length) :
  Calls Tryz.prog 125 #[.pointer (some ⟨gs, 0, none⟩), ua, ub] w (WG w F gs g mo (slessF mo s B A)) := by
 have HE : Hid _ := signedLess_any h hB hA (by omega) oB oA (by omega)
 obtain ⟨a1, c1, rfl, -, -⟩ := hA.sl
 obtain ⟨a2, c2, rfl, -, -⟩ := hB.sl
 obtain ⟨q, hq⟩ : ∃ q, q = slessF mo s B A := ⟨_, rfl⟩
 rw [← hq] at HE ⊢
 clear h hA hB hl oA oB hn hq
 go_enter Tryz.func125, Tryz.ntmps125
 go_wp2_with fail
 refine Calls.mono HE.out ?_
 rintro ev w2 ⟨u, rfl, hF⟩
 have HF : Hid _ := hF
 clear hF HE
 go_wp2_with fail
 go_ret
 exact ⟨_, rfl, HF.out⟩
theorem signedAtMost_any (h : Gn w F gs g mo s) (hA : Wd w (FG F gs) ua A) (hB : Wd w (FG F gs) ub B) (hl : A.length = B.length) (oA : Oks s A) (oB : Oks s B) (hn : 0 < A.length) :
  Calls Tryz.prog 124 #[.pointer (some ⟨gs, 0, none⟩), ua, ub] w (WG w F gs g mo (turnP (slessF mo s B A))) := by
 have HE : Hid _ := signedLess_any h hB hA (by omega) oB oA (by omega)
 have hok := sless_wok (mo := mo) (B := A) h.pos oB (by omega)
 obtain ⟨a1, c1, rfl, -, -⟩ := hA.sl
 obtain ⟨a2, c2, rfl, -, -⟩ := hB.sl
 obtain ⟨p, hp⟩ : ∃ p, p = slessF mo s B A := ⟨_, rfl⟩
 rw [← hp] at HE hok ⊢
 obtain ⟨q, hq⟩ : ∃ q, q = turnP p := ⟨_, rfl⟩
 rw [← hq]
 have HQ : Hid (q = (p.1.map tu, p.2)) := hq
 have HOK : Hid _ := hok
 clear h hA hB hl oA oB hq hp hok hn
 go_enter Tryz.func124, Tryz.ntmps124
 go_wp2_with fail
 refine Calls.mono HE.out ?_
 rintro ev w2 ⟨u, rfl, F2, hW2, hG2, hC2⟩
 have HT : Hid _ := turned_any hW2 (fun x hx => hG2.sm (HOK.out.ok x hx)) hG2.fd
 obtain ⟨a3, c3, rfl, -, -⟩ := hW2.sl
 have HG2 : Hid (Gn w2 F2 gs g mo p.2) := hG2
 have HC2 : Hid (Ch w w2 (FG F gs) (FG F2 gs)) := hC2
 clear hW2 hG2 hC2 HE
 go_wp2_with fail
 refine Calls.mono HT.out ?_
 rintro ev w3 ⟨u3, rfl, hW3, hb3⟩
 have HF : Hid (∃ F', Wd w3 (FG F' gs) u3 q.1 ∧ Gn w3 F' gs g mo q.2 ∧ Ch w w3 (FG F gs) (FG F' gs)) := by
  rw [HQ.out]
  exact ⟨F2, hW3, HG2.out.below hb3, HC2.out.trans (Ch.of_below _ hb3)⟩
 clear hW3 hb3 HT
 go_wp2_with fail
 go_ret
 exact ⟨_, rfl, HF.out⟩
theorem signedAtLeast_any (h : Gn w F gs g mo s) (hA : Wd w (FG F gs) ua A) (hB : Wd w (FG F gs) ub B) (hl : A.length = B.length) (oA : Oks s A) (oB : Oks s B) (hn : 0 < A.length) :
  Calls Tryz.prog 126 #[.pointer (some ⟨gs, 0, none⟩), ua, ub] w (WG w F gs g mo (turnP (slessF mo s A B))) := by
 have HE : Hid _ := signedLess_any h hA hB (by omega) oA oB (by omega)
 have hok := sless_wok (mo := mo) (B := B) h.pos oA (by omega)
 obtain ⟨a1, c1, rfl, -, -⟩ := hA.sl
 obtain ⟨a2, c2, rfl, -, -⟩ := hB.sl
 obtain ⟨p, hp⟩ : ∃ p, p = slessF mo s A B := ⟨_, rfl⟩
 rw [← hp] at HE hok ⊢
 obtain ⟨q, hq⟩ : ∃ q, q = turnP p := ⟨_, rfl⟩
 rw [← hq]
 have HQ : Hid (q = (p.1.map tu, p.2)) := hq
 have HOK : Hid _ := hok
 clear h hA hB hl oA oB hq hp hok hn
 go_enter Tryz.func126, Tryz.ntmps126
 go_wp2_with fail
 refine Calls.mono HE.out ?_
 rintro ev w2 ⟨u, rfl, F2, hW2, hG2, hC2⟩
 have HT : Hid _ := turned_any hW2 (fun x hx => hG2.sm (HOK.out.ok x hx)) hG2.fd
 obtain ⟨a3, c3, rfl, -, -⟩ := hW2.sl
 have HG2 : Hid (Gn w2 F2 gs g mo p.2) := hG2
 have HC2 : Hid (Ch w w2 (FG F gs) (FG F2 gs)) := hC2
 clear hW2 hG2 hC2 HE
 go_wp2_with fail
 refine Calls.mono HT.out ?_
 rintro ev w3 ⟨u3, rfl, hW3, hb3⟩
 have HF : Hid (∃ F', Wd w3 (FG F' gs) u3 q.1 ∧ Gn w3 F' gs g mo q.2 ∧ Ch w w3 (FG F gs) (FG F' gs)) := by
  rw [HQ.out]
  exact ⟨F2, hW3, HG2.out.below hb3, HC2.out.trans (Ch.of_below _ hb3)⟩
 clear hW3 hb3 HT
 go_wp2_with fail
 go_ret
 exact ⟨_, rfl, HF.out⟩
def sameF (mo : Nat) (s : Gz) (A B : List Int) : List Int × Gz := ([tu (anyF mo (wunlikeF mo s A B).2 (wunlikeF mo s A B).1).1], (anyF mo (wunlikeF mo s A B).2 (wunlikeF mo s A B).1).2)
theorem anyF_ok {s : Gz} {L : List Int} (hp : 0 < s.ks.length) : Pg s.ks (anyF mo s L).2.ks ∧ OkG (anyF mo s L).2 (anyF mo s L).1 := by
 rw [← anyK_all]
 exact anyK_ok hp L.length (Nat.le_refl _)
theorem same_wok (hp : 0 < s.ks.length) (hA : Oks s A) (hB : Oks s B) (hl : A.length = B.length) : WOk s (sameF mo s A B) 1 := by
 have h := wunlike_wok (mo := mo) hp hA hB (by omega)
 obtain ⟨h1, h2⟩ := anyF_ok (mo := mo) (s := (wunlikeF mo s A B).2) (L := (wunlikeF mo s A B).1) (by have := h.pre.length_le; omega)
 exact ⟨h.pre.trans h1, rfl, fun x hx => by rw [List.mem_singleton.1 hx]; exact h2.trn⟩
theorem same_any (h : Gn w F gs g mo s) (hA : Wd w (FG F gs) ua A) (hB : Wd w (FG F gs) ub B) (hl : A.length = B.length) (oA : Oks s A) (oB : Oks s B) :
  Calls Tryz.prog 92 #[.pointer (some ⟨gs, 0, none⟩), ua, ub] w (WG w F gs g mo (sameF mo s A B)) := by
 have HE : Hid _ := wunlike_any h hA hB (by omega) oA oB
 have hok := wunlike_wok (mo := mo) h.pos oA oB (by omega)
 obtain ⟨a1, c1, rfl, -, -⟩ := hA.sl
 obtain ⟨a2, c2, rfl, -, -⟩ := hB.sl
 obtain ⟨q, hq⟩ : ∃ q, q = sameF mo s A B := ⟨_, rfl⟩
 rw [← hq]
 obtain ⟨p, hp⟩ : ∃ p, p = wunlikeF mo s A B := ⟨_, rfl⟩
 have HQ : Hid (q = ([tu (anyF mo p.2 p.1).1], (anyF mo p.2 p.1).2)) := by unfold Hid; rw [hq, hp]; rfl
 rw [← hp] at HE hok
 have HOK : Hid _ := hok
 obtain ⟨z, hz⟩ : ∃ z, z = anyF mo p.2 p.1 := ⟨_, rfl⟩
 rw [← hz] at HQ
 have HZ : Hid _ := hz
 clear h hA hB hl oA oB hq hp hok hz
 go_enter Tryz.func92, Tryz.ntmps92
 go_wp2_with fail
 refine Calls.mono HE.out ?_
 rintro ev w2 ⟨u, rfl, F2, hW2, hG2, hC2⟩
 have HA : Hid _ := any_any hG2 hW2 HOK.out.ok
 have hzo := (anyF_ok (mo := mo) (s := p.2) (L := p.1) hG2.pos).2
 rw [← HZ.out] at HA hzo
 obtain ⟨a3, c3, rfl, -, -⟩ := hW2.sl
 have HC2 : Hid (Ch w w2 (FG F gs) (FG F2 gs)) := hC2
 clear hW2 hG2 hC2 HE
 go_wp2_with fail
 refine Calls.mono HA.out ?_
 rintro ev w3 ⟨rfl, F3, hG3, hC3⟩
 have hsm := hG3.sm hzo
 have HT : Hid (∀ wx, Calls Tryz.prog 130 #[.int .i64 z.1] wx fun e w' => e = .returned (.int .i64 (tu z.1)) ∧ w' = wx) := fun wx => bturn_any (by unfold Sm at hsm; omega) (by unfold Sm at hsm; omega) wx
 obtain ⟨tz, htz⟩ : ∃ t, t = tu z.1 := ⟨_, rfl⟩
 rw [← htz] at HT HQ
 have HW : Hid (∃ F', Wd (w3.alloc (.cells #[.int .i64 tz] 3)) (FG F' gs) (.slice (some ⟨w3.heap.size, 0, none⟩) 1 1) q.1 ∧ Gn (w3.alloc (.cells #[.int .i64 tz] 3)) F' gs g mo q.2 ∧ Ch w (w3.alloc (.cells #[.int .i64 tz] 3)) (FG F gs) (FG F' gs)) := by
  have hb : Below w3.heap.size w3 (w3.alloc (.cells #[.int .i64 tz] 3)) := by go_grown
  rw [HQ.out]
  refine ⟨F3, ⟨_, 1, rfl, Nat.le_refl _, by simp, (fun e => by cases e), Or.inr ⟨w3.heap.size, 0, rfl, by simp, fun e => by have := hG3.fd _ e; omega, fun j hj => ?_⟩⟩, hG3.below hb, (HC2.out.trans hC3).trans (Ch.of_below _ hb)⟩
  have : j = 0 := by simpa using hj
  subst this
  exact cell_of (heap_alloc_new w3 _) 0 rfl
 clear hG3 hC3 hsm hzo htz HA
 go_wp2_with fail
 refine (HT.out _).mono ?_
 rintro ev wz ⟨rfl, hz⟩
 rw [hz]
 clear hz wz
 go_wp2_with fail
 go_ret
 exact ⟨_, rfl, HW.out⟩
end
open Go.RowKit
section
variable {w : World} {D : Nat → Prop} {u : Value} {L : List Int}
theorem Wd.high {b : Addr} {n m c : Nat} (h : Wd w D (.slice (some b) m c) L) (hn : n ≤ L.length) : Wd w D (.slice (some (b.add n)) (L.length - n) (L.length - n)) (L.drop n) := by
 obtain ⟨a', c', e, h1, h5, h3, h4⟩ := h.ex
 injection e with e1 e2 e3
 refine ⟨_, L.length - n, by rw [List.length_drop], by rw [List.length_drop]; exact Nat.le_refl _, by rw [List.length_drop]; omega, (fun e => by cases e), ?_⟩
 rcases h4 with h4 | ⟨r, o, q1, q2, q3, q4⟩
 ·left; rw [h4]; simp
 ·rw [q1] at e1
  injection e1 with e1
  subst e1
  refine Or.inr ⟨r, o + n, by by_cases hq0 : n = 0 <;> simp [Addr.add, hq0], q2, q3, fun j hj => ?_⟩
  rw [List.length_drop] at hj
  have := q4 (n + j) (by omega)
  rw [Nat.add_assoc, this]
  congr 2
  rw [List.getD_eq_getElem?_getD, List.getD_eq_getElem?_getD, List.getElem?_drop]
theorem Wd.addr (h : Wd w D u L) (hn : 0 < L.length) : ∃ b c, u = .slice (some b) L.length c ∧ L.length ≤ c := by
 obtain ⟨a, c, e, h1, -, -, h4⟩ := h.ex
 obtain ⟨r, o, rfl, -⟩ := h4.resolve_left (fun e => by rw [e] at hn; simp at hn)
 exact ⟨_, c, e, h1⟩
theorem down_any {n : Nat} {fill : Int} (h : Wd w D u L) (hn : n < L.length) (hD : ∀ k, D k → k < w.heap.size) :
  Calls Tryz.prog 182 #[u, .int .i64 (n : Int), .int .i64 fill] w fun ev w' => ∃ u', ev = .returned u' ∧ Wd w' D u' (L.drop n ++ List.replicate n fill) ∧ Below w.heap.size w w' := by
 obtain ⟨-, -, -, -, h5⟩ := h.sl
 obtain ⟨b, c, rfl, hc⟩ := h.addr (by omega)
 have HE : Hid _ := extended_any (l := fill) (n := n) (h.high (n := n) (by omega)) (by rw [List.length_drop]; omega) hD
 obtain ⟨R, hR⟩ : ∃ R, R = L.drop n ++ List.replicate n fill := ⟨_, rfl⟩
 rw [← hR] at HE ⊢
 obtain ⟨m, hm⟩ : ∃ m, m = L.length := ⟨_, rfl⟩
 rw [← hm] at HE hc hn h5 ⊢
 have hnI : (n : Int) < (m : Int) := by omega
 have hmc : (m : Int) ≤ (c : Int) := by omega
 clear h hD hR hm
 go_enter Tryz.func182, Tryz.ntmps182
 go_wp2_with fail
 refine Calls.mono HE.out ?_
 rintro ev w2 ⟨u2, rfl, hW2, hb2⟩
 have HW : Hid (Wd w2 D u2 R) := hW2
 clear hW2 HE
 go_wp2_with fail
 go_ret
 exact ⟨_, rfl, HW.out, hb2⟩
theorem round_any {n : Nat} (h : Wd w D u L) (hL : 0 < L.length) (hn : n ≤ L.length) (hl2 : L.length ≤ 20000) (hD : ∀ k, D k → k < w.heap.size) :
  Calls Tryz.prog 105 #[u, .int .i64 (n : Int)] w fun ev w' => ∃ u', ev = .returned u' ∧ Wd w' D u' (L.drop n ++ L.take n) ∧ Below w.heap.size w w' := by
 obtain ⟨b, c, rfl, hc⟩ := h.addr hL
 have HL : Hid (Wd w D (.slice (some b) n n) (L.take n)) := h.low hn (by simp)
 obtain ⟨R, hR⟩ : ∃ R, R = L.drop n ++ L.take n := ⟨_, rfl⟩
 have hlen : (L.drop n).length + (L.take n).length ≤ 50000 := by rw [List.length_drop, List.length_take]; omega
 rw [← hR]
 by_cases hnm : n = L.length
 ·have HH : Hid (Wd w D (.slice (some b) 0 0) (L.drop n)) := by
   unfold Hid
   rw [hnm, List.drop_length]
   exact ⟨some b, 0, rfl, Nat.le_refl _, by simp, (fun e => by cases e), Or.inl rfl⟩
  have HB : Hid (∀ wx, Below w.heap.size w wx → Calls Tryz.prog 106 #[.slice (some b) 0 0, .slice (some b) n n] wx fun ev w' => ∃ u', ev = .returned u' ∧ Wd w' D u' R ∧ Below wx.heap.size wx w') := fun wx hb => by
   rw [hR]
   exact below_any (HH.out.below hb) (HL.out.below hb) (fun k hk => Nat.lt_of_lt_of_le (hD k hk) hb.size) hlen
  rw [← hnm] at hc ⊢
  have hmc : (n : Int) ≤ (c : Int) := by omega
  clear h hD hR hnm hlen hl2 hn hL
  go_enter Tryz.func105, Tryz.ntmps105
  go_wp2_with fail
  go_region_with (go_at_call 106; refine (HB.out _ (drew_b _)).mono ?_; rintro ev w2 ⟨u2, rfl, hW2, hb2⟩)
  all_goals
   have HW : Hid (Wd w2 D u2 R) := hW2
   have hb : Below w.heap.size w w2 := (drew_b w).trans hb2
   clear hW2 hb2
   go_wp2_with fail
   go_ret
   exact ⟨_, rfl, HW.out, hb⟩
 ·have HH : Hid _ := h.high hn
  have HB : Hid (∀ wx, Below w.heap.size w wx → Calls Tryz.prog 106 #[.slice (some (b.add n)) (L.length - n) (L.length - n), .slice (some b) n n] wx fun ev w' => ∃ u', ev = .returned u' ∧ Wd w' D u' R ∧ Below wx.heap.size wx w') := fun wx hb => by
   rw [hR]
   exact below_any (Wd.below HH.out hb) (HL.out.below hb) (fun k hk => Nat.lt_of_lt_of_le (hD k hk) hb.size) hlen
  obtain ⟨m, hm⟩ : ∃ m, m = L.length := ⟨_, rfl⟩
  rw [← hm] at HB hc hn hnm hl2 ⊢
  have hnI : (n : Int) < (m : Int) := by omega
  have hmc : (m : Int) ≤ (c : Int) := by omega
  clear h hD hR hlen hL hm HH
  go_enter Tryz.func105, Tryz.ntmps105
  go_wp2_with fail
  go_region_with (go_at_call 106; refine (HB.out _ (drew_b _)).mono ?_; rintro ev w2 ⟨u2, rfl, hW2, hb2⟩)
  all_goals
   have HW : Hid (Wd w2 D u2 R) := hW2
   have hb : Below w.heap.size w w2 := (drew_b w).trans hb2
   clear hW2 hb2
   go_wp2_with fail
   go_ret
   exact ⟨_, rfl, HW.out, hb⟩
end
end Go.Proofs.YtcahhahbcijkiaaGreat.Ag
