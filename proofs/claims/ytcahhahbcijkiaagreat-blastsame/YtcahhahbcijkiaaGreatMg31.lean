import Derived.Test.YtcahhahbcijkiaaGreatMg30
namespace Go.Proofs.YtcahhahbcijkiaaGreat.Ag
set_option maxHeartbeats 12800000
set_option maxRecDepth 100000
open Go.RowKit
set_option linter.unusedSimpArgs false
set_option linter.unusedVariables false
section
variable {w : World} {F : Nat → Prop} {gs g mo : Nat} {s : Gz} {ua ub : Value} {A B : List Int}
theorem OkG.zero (hp : 0 < s.ks.length) : OkG s 0 := ⟨Int.le_refl _, by omega⟩
theorem OkG.one (hp : 0 < s.ks.length) : OkG s 1 := ⟨by omega, by omega⟩
theorem Oks.rev (h : Oks s A) : Oks s A.reverse := fun x hx => h x (List.mem_reverse.1 hx)
theorem shiftDown_any (h : Gn w F gs g mo s) (hA : Wd w (FG F gs) ua A) (hB : Wd w (FG F gs) ub B) (hl : A.length = B.length) (hn : 0 < A.length) (oA : Oks s A) (oB : Oks s B) :
  Calls Tryz.prog 117 #[.pointer (some ⟨gs, 0, none⟩), ua, ub] w (WG w F gs g mo (shiftF mo s A B 0)) := by
 have HE : Hid _ := shift_any h hA hB hl hn oA oB (OkG.zero h.pos)
 obtain ⟨a1, c1, rfl, -, -⟩ := hA.sl
 obtain ⟨a2, c2, rfl, -, -⟩ := hB.sl
 obtain ⟨q, hq⟩ : ∃ q, q = shiftF mo s A B 0 := ⟨_, rfl⟩
 rw [← hq] at HE ⊢
 clear h hA hB hl oA oB hn hq
 go_enter Tryz.func117, Tryz.ntmps117
 go_wp2_with fail
 refine Calls.mono HE.out ?_
 rintro ev w2 ⟨u, rfl, hF⟩
 have HF : Hid _ := hF
 clear hF HE
 go_wp2_with fail
 go_ret
 exact ⟨_, rfl, HF.out⟩
theorem signedShiftDown_any (h : Gn w F gs g mo s) (hA : Wd w (FG F gs) ua A) (hB : Wd w (FG F gs) ub B) (hl : A.length = B.length) (hn : 0 < A.length) (oA : Oks s A) (oB : Oks s B) :
  Calls Tryz.prog 118 #[.pointer (some ⟨gs, 0, none⟩), ua, ub] w (WG w F gs g mo (shiftF mo s A B (A.getD (A.length - 1) 0))) := by
 have HT : Hid _ := top_any hA hn
 have HE : Hid _ := shift_any h hA hB hl hn oA oB (oA _ (getD_mem (k := A.length - 1) (by omega)))
 obtain ⟨a1, c1, rfl, -, -⟩ := hA.sl
 obtain ⟨a2, c2, rfl, -, -⟩ := hB.sl
 obtain ⟨c, hc⟩ : ∃ c, c = A.getD (A.length - 1) 0 := ⟨_, rfl⟩
 rw [← hc] at HT HE ⊢
 obtain ⟨q, hq⟩ : ∃ q, q = shiftF mo s A B c := ⟨_, rfl⟩
 rw [← hq] at HE ⊢
 clear h hA hB hl oA oB hn hq hc
 go_enter Tryz.func118, Tryz.ntmps118
 go_wp2_with fail
 refine Calls.mono HT.out ?_
 rintro ev wz ⟨rfl, hz⟩
 rw [hz]
 clear hz wz
 go_wp2_with fail
 refine Calls.mono HE.out ?_
 rintro ev w2 ⟨u, rfl, hF⟩
 have HF : Hid _ := hF
 clear hF HE
 go_wp2_with fail
 go_ret
 exact ⟨_, rfl, HF.out⟩
def shlF (mo : Nat) (s : Gz) (A B : List Int) : List Int × Gz := ((shiftF mo s A.reverse B 0).1.reverse, (shiftF mo s A.reverse B 0).2)
theorem shl_wok (hp : 0 < s.ks.length) (oA : Oks s A) : WOk s (shlF mo s A B) A.length := by
 have h := shift_wok (mo := mo) (B := B) hp oA.rev (OkG.zero hp)
 rw [List.length_reverse] at h
 exact ⟨h.pre, by show (List.reverse _).length = _; rw [List.length_reverse]; exact h.len, Oks.rev h.ok⟩
theorem shiftUp_any (h : Gn w F gs g mo s) (hA : Wd w (FG F gs) ua A) (hB : Wd w (FG F gs) ub B) (hl : A.length = B.length) (hn : 0 < A.length) (oA : Oks s A) (oB : Oks s B) :
  Calls Tryz.prog 116 #[.pointer (some ⟨gs, 0, none⟩), ua, ub] w (WG w F gs g mo (shlF mo s A B)) := by
 have HT : Hid _ := reversed_any hA hn h.fd
 have hok := shift_wok (mo := mo) (B := B) h.pos oA.rev (OkG.zero h.pos)
 have HX : Hid (∀ wx u', Below w.heap.size w wx → Wd wx (FG F gs) u' A.reverse → Calls Tryz.prog 147 #[.pointer (some ⟨gs, 0, none⟩), u', ub, .int .i64 0] wx (WG wx F gs g mo (shiftF mo s A.reverse B 0))) := fun wx u' hb hu => shift_any (h.below hb) hu (hB.below hb) (by rw [List.length_reverse]; exact hl) (by rw [List.length_reverse]; exact hn) oA.rev oB (OkG.zero h.pos)
 rw [List.length_reverse] at hok
 obtain ⟨a1, c1, rfl, -, -⟩ := hA.sl
 obtain ⟨a2, c2, rfl, -, -⟩ := hB.sl
 obtain ⟨q, hq⟩ : ∃ q, q = shlF mo s A B := ⟨_, rfl⟩
 rw [← hq]
 obtain ⟨p, hp⟩ : ∃ p, p = shiftF mo s A.reverse B 0 := ⟨_, rfl⟩
 have HQ : Hid (q = (p.1.reverse, p.2)) := by unfold Hid; rw [hq, hp]; rfl
 rw [← hp] at HX hok
 have HOK : Hid (0 < p.1.length) := by unfold Hid; rw [hok.len]; exact hn
 clear h hA hB hl oA oB hn hq hp hok
 go_enter Tryz.func116, Tryz.ntmps116
 go_wp2_with fail
 refine Calls.mono HT.out ?_
 rintro ev w2 ⟨u2, rfl, hW2, hb2⟩
 have HE : Hid _ := HX.out w2 u2 hb2 hW2
 have HB2 : Hid (Below w.heap.size w w2) := hb2
 clear hW2 hb2 HT HX
 go_wp2_with fail
 refine Calls.mono HE.out ?_
 rintro ev w3 ⟨u3, rfl, F3, hW3, hG3, hC3⟩
 have HT3 : Hid _ := reversed_any hW3 HOK.out hG3.fd
 have HG3 : Hid (Gn w3 F3 gs g mo p.2) := hG3
 have HC3 : Hid (Ch w w3 (FG F gs) (FG F3 gs)) := (Ch.of_below _ HB2.out).trans hC3
 clear hW3 hG3 hC3 HE
 go_wp2_with fail
 refine Calls.mono HT3.out ?_
 rintro ev w4 ⟨u4, rfl, hW4, hb4⟩
 have HF : Hid (∃ F', Wd w4 (FG F' gs) u4 q.1 ∧ Gn w4 F' gs g mo q.2 ∧ Ch w w4 (FG F gs) (FG F' gs)) := by
  rw [HQ.out]
  exact ⟨F3, hW4, HG3.out.below hb4, HC3.out.trans (Ch.of_below _ hb4)⟩
 clear hW4 hb4 HT3
 go_wp2_with fail
 go_ret
 exact ⟨_, rfl, HF.out⟩
theorem complement_any {pp qq : Int} (h : Gn w F gs g mo s) (hA : Wd w (FG F gs) ua A) (oA : Oks s A) :
  Calls Tryz.prog 81 #[.pointer (some ⟨gs, 0, none⟩), ua, .int .i64 pp, .int .i64 qq] w (WG w F gs g mo (A.map tu, s)) := by
 have HE : Hid _ := turned_any hA (fun x hx => h.sm (oA x hx)) h.fd
 have H : Hid _ := h
 obtain ⟨a1, c1, rfl, -, h5⟩ := hA.sl
 obtain ⟨X, hX⟩ : ∃ X, X = A.map tu := ⟨_, rfl⟩
 rw [← hX] at HE ⊢
 clear h hA hX
 go_enter Tryz.func81, Tryz.ntmps81
 go_wp2_with fail
 refine Calls.mono HE.out ?_
 rintro ev w2 ⟨u, rfl, hW2, hb2⟩
 have HF : Hid (∃ F', Wd w2 (FG F' gs) u X ∧ Gn w2 F' gs g mo s ∧ Ch w w2 (FG F gs) (FG F' gs)) := ⟨F, hW2, H.out.below hb2, Ch.of_below _ hb2⟩
 clear hW2 hb2 HE
 go_wp2_with fail
 go_ret
 exact ⟨_, rfl, HF.out⟩
theorem joined_any (h : Gn w F gs g mo s) (hA : Wd w (FG F gs) ua A) (hB : Wd w (FG F gs) ub B) (hl : A.length + B.length ≤ 50000) :
  Calls Tryz.prog 91 #[.pointer (some ⟨gs, 0, none⟩), ua, ub] w (WG w F gs g mo (B ++ A, s)) := by
 have HE : Hid _ := below_any hB hA h.fd (by omega)
 have H : Hid _ := h
 obtain ⟨a1, c1, rfl, -, h5⟩ := hA.sl
 obtain ⟨a2, c2, rfl, -, -⟩ := hB.sl
 obtain ⟨X, hX⟩ : ∃ X, X = B ++ A := ⟨_, rfl⟩
 rw [← hX] at HE ⊢
 clear h hA hX hB
 go_enter Tryz.func91, Tryz.ntmps91
 go_wp2_with fail
 refine Calls.mono HE.out ?_
 rintro ev w2 ⟨u, rfl, hW2, hb2⟩
 have HF : Hid (∃ F', Wd w2 (FG F' gs) u X ∧ Gn w2 F' gs g mo s ∧ Ch w w2 (FG F gs) (FG F' gs)) := ⟨F, hW2, H.out.below hb2, Ch.of_below _ hb2⟩
 clear hW2 hb2 HE
 go_wp2_with fail
 go_ret
 exact ⟨_, rfl, HF.out⟩
theorem zeroExtension_any {P Q : Nat} (h : Gn w F gs g mo s) (hA : Wd w (FG F gs) ua A) (hl : A.length + P ≤ 50000) :
  Calls Tryz.prog 76 #[.pointer (some ⟨gs, 0, none⟩), ua, .int .i64 (P : Int), .int .i64 (Q : Int)] w (WG w F gs g mo (A ++ List.replicate P 0, s)) := by
 have HE : Hid _ := extended_any (l := 0) (n := P) hA hl h.fd
 have H : Hid _ := h
 obtain ⟨a1, c1, rfl, -, h5⟩ := hA.sl
 obtain ⟨X, hX⟩ : ∃ X, X = A ++ List.replicate P 0 := ⟨_, rfl⟩
 rw [← hX] at HE ⊢
 clear h hA hX
 go_enter Tryz.func76, Tryz.ntmps76
 go_wp2_with fail
 refine Calls.mono HE.out ?_
 rintro ev w2 ⟨u, rfl, hW2, hb2⟩
 have HF : Hid (∃ F', Wd w2 (FG F' gs) u X ∧ Gn w2 F' gs g mo s ∧ Ch w w2 (FG F gs) (FG F' gs)) := ⟨F, hW2, H.out.below hb2, Ch.of_below _ hb2⟩
 clear hW2 hb2 HE
 go_wp2_with fail
 go_ret
 exact ⟨_, rfl, HF.out⟩
theorem signExtension_any {P Q : Nat} (h : Gn w F gs g mo s) (hA : Wd w (FG F gs) ua A) (hn : 0 < A.length) (hl : A.length + P ≤ 50000) :
  Calls Tryz.prog 77 #[.pointer (some ⟨gs, 0, none⟩), ua, .int .i64 (P : Int), .int .i64 (Q : Int)] w (WG w F gs g mo (A ++ List.replicate P (A.getD (A.length - 1) 0), s)) := by
 have HE : Hid _ := extended_any (l := A.getD (A.length - 1) 0) (n := P) hA hl h.fd
 have HT : Hid _ := top_any hA hn
 have H : Hid _ := h
 obtain ⟨a1, c1, rfl, -, h5⟩ := hA.sl
 obtain ⟨X, hX⟩ : ∃ X, X = A ++ List.replicate P (A.getD (A.length - 1) 0) := ⟨_, rfl⟩
 rw [← hX] at HE ⊢
 obtain ⟨c, hc⟩ : ∃ c, c = A.getD (A.length - 1) 0 := ⟨_, rfl⟩
 rw [← hc] at HT HE
 clear hc
 clear h hA hX
 go_enter Tryz.func77, Tryz.ntmps77
 go_wp2_with fail
 refine Calls.mono HT.out ?_
 rintro ev wz ⟨rfl, hz⟩
 rw [hz]
 clear hz wz
 go_wp2_with fail
 refine Calls.mono HE.out ?_
 rintro ev w2 ⟨u, rfl, hW2, hb2⟩
 have HF : Hid (∃ F', Wd w2 (FG F' gs) u X ∧ Gn w2 F' gs g mo s ∧ Ch w w2 (FG F gs) (FG F' gs)) := ⟨F, hW2, H.out.below hb2, Ch.of_below _ hb2⟩
 clear hW2 hb2 HE
 go_wp2_with fail
 go_ret
 exact ⟨_, rfl, HF.out⟩
theorem extraction_any {P Q : Nat} (h : Gn w F gs g mo s) (hA : Wd w (FG F gs) ua A) (hqp : Q ≤ P) (hp : P < A.length) :
  Calls Tryz.prog 75 #[.pointer (some ⟨gs, 0, none⟩), ua, .int .i64 (P : Int), .int .i64 (Q : Int)] w (WG w F gs g mo ((A.take (P + 1)).drop Q, s)) := by
 have HE : Hid _ := cut_any hA (p := P + 1) (q := Q) (by omega) (by omega)
 have H : Hid _ := h
 obtain ⟨a1, c1, rfl, -, h5⟩ := hA.sl
 obtain ⟨X, hX⟩ : ∃ X, X = (A.take (P + 1)).drop Q := ⟨_, rfl⟩
 rw [← hX] at HE ⊢
 have e : ((P + 1 : Nat) : Int) - 1 = (P : Int) := by omega
 rw [e] at HE
 clear e
 clear h hA hX
 go_enter Tryz.func75, Tryz.ntmps75
 go_wp2_with fail
 refine Calls.mono HE.out ?_
 rintro ev w2 ⟨u, rfl, hW2, hb2⟩
 have HF : Hid (∃ F', Wd w2 (FG F' gs) u X ∧ Gn w2 F' gs g mo s ∧ Ch w w2 (FG F gs) (FG F' gs)) := by
  rw [hb2] at hW2 ⊢
  exact ⟨F, hW2, H.out, Ch.refl _ _⟩
 clear hW2 hb2 HE
 go_wp2_with fail
 go_ret
 exact ⟨_, rfl, HF.out⟩
theorem rotationUp_any {P Q : Nat} (h : Gn w F gs g mo s) (hA : Wd w (FG F gs) ua A) (hn : 0 < A.length) (hl : A.length ≤ 20000) (hP : P ≤ 20000) :
  Calls Tryz.prog 78 #[.pointer (some ⟨gs, 0, none⟩), ua, .int .i64 (P : Int), .int .i64 (Q : Int)] w (WG w F gs g mo (A.drop (A.length - P % A.length) ++ A.take (A.length - P % A.length), s)) := by
 have HE : Hid _ := round_any (n := A.length - P % A.length) hA hn (by have := Nat.mod_lt P hn; omega) hl h.fd
 have H : Hid _ := h
 obtain ⟨a1, c1, rfl, -, h5⟩ := hA.sl
 obtain ⟨X, hX⟩ : ∃ X, X = A.drop (A.length - P % A.length) ++ A.take (A.length - P % A.length) := ⟨_, rfl⟩
 rw [← hX] at HE ⊢
 obtain ⟨n, hnn⟩ : ∃ n, n = A.length := ⟨_, rfl⟩
 rw [← hnn] at HE hn h5 ⊢
 have hm : P % n < n := Nat.mod_lt P hn
 obtain ⟨m, hmm⟩ : ∃ m, m = P % n := ⟨_, rfl⟩
 have hrem : (P : Int).tmod (n : Int) = (m : Int) := by rw [hmm]; rfl
 rw [← hmm] at HE hm
 have hsub : ((n - m : Nat) : Int) = (n : Int) - (m : Int) := by omega
 rw [hsub] at HE
 clear hnn hmm
 clear h hA hX
 go_enter Tryz.func78, Tryz.ntmps78
 go_wp2_with fail
 refine Calls.mono HE.out ?_
 rintro ev w2 ⟨u, rfl, hW2, hb2⟩
 have HF : Hid (∃ F', Wd w2 (FG F' gs) u X ∧ Gn w2 F' gs g mo s ∧ Ch w w2 (FG F gs) (FG F' gs)) := ⟨F, hW2, H.out.below hb2, Ch.of_below _ hb2⟩
 clear hW2 hb2 HE
 go_wp2_with fail
 go_ret
 exact ⟨_, rfl, HF.out⟩
theorem rotationDown_any {P Q : Nat} (h : Gn w F gs g mo s) (hA : Wd w (FG F gs) ua A) (hn : 0 < A.length) (hl : A.length ≤ 20000) (hP : P ≤ 20000) :
  Calls Tryz.prog 79 #[.pointer (some ⟨gs, 0, none⟩), ua, .int .i64 (P : Int), .int .i64 (Q : Int)] w (WG w F gs g mo (A.drop (P % A.length) ++ A.take (P % A.length), s)) := by
 have HE : Hid _ := round_any (n := P % A.length) hA hn (by have := Nat.mod_lt P hn; omega) hl h.fd
 have H : Hid _ := h
 obtain ⟨a1, c1, rfl, -, h5⟩ := hA.sl
 obtain ⟨X, hX⟩ : ∃ X, X = A.drop (P % A.length) ++ A.take (P % A.length) := ⟨_, rfl⟩
 rw [← hX] at HE ⊢
 obtain ⟨n, hnn⟩ : ∃ n, n = A.length := ⟨_, rfl⟩
 rw [← hnn] at HE hn h5 ⊢
 have hm : P % n < n := Nat.mod_lt P hn
 obtain ⟨m, hmm⟩ : ∃ m, m = P % n := ⟨_, rfl⟩
 have hrem : (P : Int).tmod (n : Int) = (m : Int) := by rw [hmm]; rfl
 rw [← hmm] at HE hm
 clear hnn hmm
 clear h hA hX
 go_enter Tryz.func79, Tryz.ntmps79
 go_wp2_with fail
 refine Calls.mono HE.out ?_
 rintro ev w2 ⟨u, rfl, hW2, hb2⟩
 have HF : Hid (∃ F', Wd w2 (FG F' gs) u X ∧ Gn w2 F' gs g mo s ∧ Ch w w2 (FG F gs) (FG F' gs)) := ⟨F, hW2, H.out.below hb2, Ch.of_below _ hb2⟩
 clear hW2 hb2 HE
 go_wp2_with fail
 go_ret
 exact ⟨_, rfl, HF.out⟩
end
open Go.RowKit
def Weq (a b : World) : Prop := a = b
section
variable {w : World} {D : Nat → Prop} {u : Value} {L : List Int}
theorem Wd.at (h : Wd w D u L) {a : Option Addr} {m c k : Nat} (hu : u = .slice a m c) (hk : k < L.length) : ∃ r o, a = some ⟨r, o, none⟩ ∧ r < w.heap.size ∧ w.cell? ⟨r, o + k, none⟩ = some (.int .i64 (L.getD k 0)) := by
 obtain ⟨r, o, c', e, hr, hc⟩ := h.cell hk
 rw [hu] at e
 injection e with e1 e2 e3
 exact ⟨r, o, e1, hr, hc⟩
theorem drop_at {k : Nat} (hk : k < L.length) : L.drop k = L.getD k 0 :: L.drop (k + 1) := by
 rw [List.drop_eq_getElem_cons hk, List.getD_eq_getElem?_getD, List.getElem?_eq_getElem hk]
 rfl
theorem take_at {k : Nat} (hk : k < L.length) : L.take (k + 1) = L.take k ++ [L.getD k 0] := by
 rw [List.take_add_one, List.getElem?_eq_getElem hk, List.getD_eq_getElem?_getD, List.getElem?_eq_getElem hk]
 rfl
theorem count_any {l : Int} (h : Wd w D u L) :
  Calls Tryz.prog 179 #[u, .int .i64 l] w fun ev w' => ev = .returned (.int .i64 (L.count l : Nat)) ∧ w' = w := by
 obtain ⟨a, c, rfl, -, h5⟩ := h.sl
 have HA : Hid (∀ k, k < L.length → ∃ r o, a = some ⟨r, o, none⟩ ∧ r < w.heap.size ∧ w.cell? ⟨r, o + k, none⟩ = some (.int .i64 (L.getD k 0))) := fun k hk => h.at rfl hk
 obtain ⟨n, hn⟩ : ∃ n, n = L.length := ⟨_, rfl⟩
 have HN : Hid _ := hn
 rw [← hn] at h5 HA ⊢
 clear h hn
 go_enter Tryz.func179, Tryz.ntmps179
 go_wp2_with fail
 go_loopw [5, 10] (fun v i wr => ∃ k : Nat, k ≤ n ∧ i = .int .i64 (k : Int) ∧ v = .int .i64 ((L.take k).count l : Nat) ∧ Hid (Weq wr w)) (fun v i wr => n - (intOf i).toNat)
 case atStart => exact ⟨0, Nat.zero_le _, rfl, rfl, rfl⟩
 case round =>
  obtain ⟨k, hk, rfl, rfl, hw⟩ := hrel
  have hw' : wr = w := hw.out
  subst hw'
  by_cases hkn : k < n
  ·obtain ⟨r, o, rfl, hr, hc⟩ := HA.out k hkn
   have hkI : (k : Int) < (n : Int) := by omega
   have htk := take_at (L := L) (k := k) (by rw [← HN.out]; exact hkn)
   obtain ⟨x, hx⟩ : ∃ x, x = L.getD k 0 := ⟨_, rfl⟩
   rw [← hx] at hc htk
   have hcnt : (L.take (k + 1)).count l = (L.take k).count l + (if x = l then 1 else 0) := by
    rw [htk, List.count_append, List.count_singleton]
    congr 1
    by_cases e : x = l <;> simp [e]
   have hcl : (L.take k).count l ≤ k := Nat.le_trans List.count_le_length (by rw [List.length_take]; omega)
   obtain ⟨m, hm⟩ : ∃ m, m = (L.take k).count l := ⟨_, rfl⟩
   rw [← hm] at hcnt hcl ⊢
   have HCN : Hid _ := hcnt
   clear hx htk hm hcnt
   by_cases hxl : x = l
   ·have z0 : (x == l) = true := by simp [hxl]
    go_wp2_with fail
    refine ⟨⟨k + 1, by omega, by go_num, ?_, rfl⟩, by simp [intOf]; omega⟩
    rw [HCN.out, if_pos hxl]
    go_num
   ·have z0 : (x == l) = false := by simp [hxl]
    go_wp2_with fail
    refine ⟨⟨k + 1, by omega, by go_num, ?_, rfl⟩, by simp [intOf]; omega⟩
    rw [HCN.out, if_neg hxl]
    rfl
  ·obtain rfl : k = n := by omega
   have hkI : ¬ (k : Int) < (k : Int) := by omega
   have HE : Hid (L.take k = L) := by unfold Hid; rw [HN.out, List.take_length]
   go_wp2_with fail
   go_ret
   exact ⟨by rw [HE.out]; rfl, rfl⟩
theorem fixed_any (h : Wd w D u L) :
  Calls Tryz.prog 176 #[u] w fun ev w' => ev = .returned (.int .i64 (L.count 0 + L.count 1 : Nat)) ∧ w' = w := by
 have H0 : Hid _ := count_any (l := 0) h
 have H1 : Hid _ := count_any (l := 1) h
 obtain ⟨a, c, rfl, -, h5⟩ := h.sl
 have hc0 : L.count 0 ≤ 50000 := Nat.le_trans List.count_le_length h5
 have hc1 : L.count 1 ≤ 50000 := Nat.le_trans List.count_le_length h5
 obtain ⟨n0, hn0⟩ : ∃ n, n = L.count 0 := ⟨_, rfl⟩
 obtain ⟨n1, hn1⟩ : ∃ n, n = L.count 1 := ⟨_, rfl⟩
 rw [← hn0] at H0 hc0 ⊢
 rw [← hn1] at H1 hc1 ⊢
 clear h hn0 hn1
 go_enter Tryz.func176, Tryz.ntmps176
 go_wp2_with fail
 refine Calls.mono H0.out ?_
 rintro ev wz ⟨rfl, hz⟩
 rw [hz]
 clear hz wz
 go_wp2_with fail
 refine Calls.mono H1.out ?_
 rintro ev wz ⟨rfl, hz⟩
 rw [hz]
 clear hz wz
 go_wp2_with fail
 go_ret
 exact ⟨by go_num, rfl⟩
def cmpI (x y : Int) : Int := if x < y then -1 else if y < x then 1 else 0
def cmpW : List Int → List Int → Int
 | [], [] => 0
 | [], _ :: _ => -1
 | _ :: _, [] => 1
 | x :: A, y :: B => if cmpI x y ≠ 0 then cmpI x y else cmpW A B
theorem notNaN (x : Int) (w : World) : Calls Tryz.prog 214 #[.int .i64 x] w fun ev w' => ev = .returned (.bool false) ∧ w' = w := by
 have z0 : (x != x) = false := by simp
 go_enter Tryz.func214, Tryz.ntmps214
 go_wp2_with fail
 go_ret
 exact ⟨rfl, rfl⟩
theorem cmpI_any (x y : Int) (w : World) : Calls Tryz.prog 201 #[.int .i64 x, .int .i64 y] w fun ev w' => ev = .returned (.int .i64 (cmpI x y)) ∧ w' = w := by
 have HX : Hid _ := notNaN x w
 have HY : Hid _ := notNaN y w
 by_cases h1 : x < y
 ·have HC : Hid (cmpI x y = -1) := by unfold Hid cmpI; rw [if_pos h1]
  go_enter Tryz.func201, Tryz.ntmps201
  go_wp2_with fail
  refine Calls.mono HX.out ?_
  rintro ev wz ⟨rfl, hz⟩
  rw [hz]
  clear hz wz
  go_wp2_with fail
  refine Calls.mono HY.out ?_
  rintro ev wz ⟨rfl, hz⟩
  rw [hz]
  clear hz wz
  go_wp2_with fail
  go_ret
  exact ⟨by rw [HC.out]; rfl, rfl⟩
 ·by_cases h2 : y < x
  ·have HC : Hid (cmpI x y = 1) := by unfold Hid cmpI; rw [if_neg h1, if_pos h2]
   have z1 : ¬ x < y := h1
   go_enter Tryz.func201, Tryz.ntmps201
   go_wp2_with fail
   refine Calls.mono HX.out ?_
   rintro ev wz ⟨rfl, hz⟩
   rw [hz]
   clear hz wz
   go_wp2_with fail
   refine Calls.mono HY.out ?_
   rintro ev wz ⟨rfl, hz⟩
   rw [hz]
   clear hz wz
   go_wp2_with fail
   go_ret
   exact ⟨by rw [HC.out]; rfl, rfl⟩
  ·have HC : Hid (cmpI x y = 0) := by unfold Hid cmpI; rw [if_neg h1, if_neg h2]
   go_enter Tryz.func201, Tryz.ntmps201
   go_wp2_with fail
   refine Calls.mono HX.out ?_
   rintro ev wz ⟨rfl, hz⟩
   rw [hz]
   clear hz wz
   go_wp2_with fail
   refine Calls.mono HY.out ?_
   rintro ev wz ⟨rfl, hz⟩
   rw [hz]
   clear hz wz
   go_wp2_with fail
   go_ret
   exact ⟨by rw [HC.out]; rfl, rfl⟩
theorem compare_any {u2 : Value} {L2 : List Int} (h : Wd w D u L) (h2 : Wd w D u2 L2) (hl : L.length = L2.length) :
  Calls Tryz.prog 177 #[u, u2] w fun ev w' => ev = .returned (.int .i64 (cmpW L L2)) ∧ w' = w := by
 obtain ⟨a, c, rfl, -, h5⟩ := h.sl
 obtain ⟨a2, c2, rfl, -, -⟩ := h2.sl
 have HA : Hid (∀ k, k < L.length → ∃ r o, a = some ⟨r, o, none⟩ ∧ r < w.heap.size ∧ w.cell? ⟨r, o + k, none⟩ = some (.int .i64 (L.getD k 0))) := fun k hk => h.at rfl hk
 have HB : Hid (∀ k, k < L.length → ∃ r o, a2 = some ⟨r, o, none⟩ ∧ r < w.heap.size ∧ w.cell? ⟨r, o + k, none⟩ = some (.int .i64 (L2.getD k 0))) := fun k hk => h2.at rfl (by omega)
 obtain ⟨n, hn⟩ : ∃ n, n = L.length := ⟨_, rfl⟩
 have HN : Hid _ := hn
 have HN2 : Hid (n = L2.length) := hn.trans hl
 rw [← hn] at h5 HA HB ⊢
 rw [← HN2.out]
 obtain ⟨q, hq⟩ : ∃ q, q = cmpW L L2 := ⟨_, rfl⟩
 rw [← hq]
 have HQ : Hid _ := hq
 clear h hn h2 hl hq
 go_enter Tryz.func177, Tryz.ntmps177
 go_wp2_with fail
 go_loopw [11] (fun i wr => ∃ k : Nat, k ≤ n ∧ i = .int .i64 (k : Int) ∧ Hid (Weq wr w ∧ q = cmpW (L.drop k) (L2.drop k))) (fun i wr => n - (intOf i).toNat)
 case atStart => exact ⟨0, Nat.zero_le _, rfl, rfl, HQ.out⟩
 case round =>
  obtain ⟨k, hk, rfl, hw⟩ := hrel
  have hw' : wr = w := hw.out.1
  subst hw'
  have HK := hw.out.2
  clear hw
  by_cases hkn : k < n
  ·obtain ⟨r, o, rfl, hr, hc⟩ := HA.out k hkn
   obtain ⟨r2, o2, rfl, hr2, hc2⟩ := HB.out k hkn
   rw [drop_at (L := L) (k := k) (by rw [← HN.out]; exact hkn), drop_at (L := L2) (k := k) (by rw [← HN2.out]; exact hkn)] at HK
   have hkI : (k : Int) < (n : Int) := by omega
   obtain ⟨x, hx⟩ : ∃ x, x = L.getD k 0 := ⟨_, rfl⟩
   obtain ⟨y, hy⟩ : ∃ x, x = L2.getD k 0 := ⟨_, rfl⟩
   rw [← hx] at hc HK
   rw [← hy] at hc2 HK
   have HC : Hid _ := cmpI_any x y wr
   have HK2 : Hid (q = if cmpI x y ≠ 0 then cmpI x y else cmpW (L.drop (k + 1)) (L2.drop (k + 1))) := HK
   obtain ⟨z, hz⟩ : ∃ z, z = cmpI x y := ⟨_, rfl⟩
   rw [← hz] at HC HK2
   clear hx hy HK hz
   go_wp2_with fail
   refine Calls.mono HC.out ?_
   rintro ev wz ⟨rfl, hz⟩
   rw [hz]
   clear hz wz
   by_cases hz0 : z = 0
   ·have z0 : (z != 0) = false := by simp [hz0]
    have HK3 : Hid (q = cmpW (L.drop (k + 1)) (L2.drop (k + 1))) := by unfold Hid; rw [HK2.out, if_neg (fun e => e hz0)]
    go_wp2_with fail
    exact ⟨⟨k + 1, by omega, by go_num, rfl, HK3.out⟩, by simp [intOf]; omega⟩
   ·have z0 : (z != 0) = true := by simp [hz0]
    have HK3 : Hid (q = z) := by unfold Hid; rw [HK2.out, if_pos hz0]
    go_wp2_with fail
    go_ret
    exact ⟨by rw [HK3.out]; rfl, rfl⟩
  ·obtain rfl : k = n := by omega
   have hkI : ¬ (k : Int) < (k : Int) := by omega
   have HE : Hid (q = 0) := by
    unfold Hid
    have e1 : L.drop k = [] := by rw [HN.out, List.drop_length]
    have e2 : L2.drop k = [] := by rw [HN2.out, List.drop_length]
    rw [HK, e1, e2]
    rfl
   clear HK
   go_wp2_with fail
   go_ret
   exact ⟨by rw [HE.out]; rfl, rfl⟩
def idxW (l : Int) (L : List Int) : Int := if l ∈ L then (L.idxOf l : Nat) else -1
theorem index_any {l : Int} (h : Wd w D u L) :
  Calls Tryz.prog 202 #[u, .int .i64 l] w fun ev w' => ∃ x : Int, ev = .returned (.int .i64 x) ∧ (0 ≤ x ↔ l ∈ L) ∧ w' = w := by
 obtain ⟨a, c, rfl, -, h5⟩ := h.sl
 have HA : Hid (∀ k, k < L.length → ∃ r o, a = some ⟨r, o, none⟩ ∧ r < w.heap.size ∧ w.cell? ⟨r, o + k, none⟩ = some (.int .i64 (L.getD k 0))) := fun k hk => h.at rfl hk
 obtain ⟨n, hn⟩ : ∃ n, n = L.length := ⟨_, rfl⟩
 have HN : Hid _ := hn
 rw [← hn] at h5 HA ⊢
 clear h hn
 go_enter Tryz.func202, Tryz.ntmps202
 go_wp2_with fail
 go_loopw [8] (fun i wr => ∃ k : Nat, k ≤ n ∧ i = .int .i64 (k : Int) ∧ Hid (Weq wr w ∧ (l ∈ L ↔ l ∈ L.drop k))) (fun i wr => n - (intOf i).toNat)
 case atStart => exact ⟨0, Nat.zero_le _, rfl, rfl, Iff.rfl⟩
 case round =>
  obtain ⟨k, hk, rfl, hw⟩ := hrel
  have hw' : wr = w := hw.out.1
  subst hw'
  have HK := hw.out.2
  clear hw
  by_cases hkn : k < n
  ·obtain ⟨r, o, rfl, hr, hc⟩ := HA.out k hkn
   rw [drop_at (L := L) (k := k) (by rw [← HN.out]; exact hkn)] at HK
   have hkI : (k : Int) < (n : Int) := by omega
   obtain ⟨x, hx⟩ : ∃ x, x = L.getD k 0 := ⟨_, rfl⟩
   rw [← hx] at hc HK
   have HK2 : Hid _ := HK
   clear hx HK
   by_cases hz0 : l = x
   ·have z0 : (l == x) = true := by simp [hz0]
    have HK3 : Hid (l ∈ L) := HK2.out.2 (by rw [hz0]; exact List.mem_cons_self)
    go_wp2_with fail
    go_ret
    exact ⟨_, rfl, ⟨fun _ => HK3.out, fun _ => by omega⟩, rfl⟩
   ·have z0 : (l == x) = false := by simp [hz0]
    have HK3 : Hid (l ∈ L ↔ l ∈ L.drop (k + 1)) := by
     unfold Hid
     rw [HK2.out, List.mem_cons]
     exact ⟨fun e => e.resolve_left hz0, Or.inr⟩
    go_wp2_with fail
    exact ⟨⟨k + 1, by omega, by go_num, rfl, HK3.out⟩, by simp [intOf]; omega⟩
  ·obtain rfl : k = n := by omega
   have hkI : ¬ (k : Int) < (k : Int) := by omega
   have HE : Hid (¬ l ∈ L) := by
    unfold Hid
    have e1 : L.drop k = [] := by rw [HN.out, List.drop_length]
    rw [HK, e1]
    simp
   clear HK
   go_wp2_with fail
   go_ret
   exact ⟨_, rfl, ⟨fun e => absurd e (by decide), fun e => absurd e HE.out⟩, rfl⟩
theorem contains_any {l : Int} (h : Wd w D u L) :
  Calls Tryz.prog 181 #[u, .int .i64 l] w fun ev w' => ev = .returned (.bool (decide (l ∈ L))) ∧ w' = w := by
 have HI : Hid _ := index_any (l := l) h
 obtain ⟨a, c, rfl, -, h5⟩ := h.sl
 obtain ⟨q, hq⟩ : ∃ q, q = decide (l ∈ L) := ⟨_, rfl⟩
 rw [← hq]
 have HQ : Hid _ := hq
 clear h hq
 go_enter Tryz.func181, Tryz.ntmps181
 go_wp2_with fail
 refine Calls.mono HI.out ?_
 rintro ev wz ⟨x, rfl, hx, hz⟩
 rw [hz]
 have HX : Hid (decide (0 ≤ x) = q) := by
  unfold Hid
  rw [HQ.out]
  exact decide_eq_decide.2 hx
 clear hz wz hx
 go_wp2_with fail
 go_ret
 exact ⟨by first | (rw [HX.out]; rfl) | (rw [← HX.out]; rfl) | rfl, rfl⟩
end
end Go.Proofs.YtcahhahbcijkiaaGreat.Ag
