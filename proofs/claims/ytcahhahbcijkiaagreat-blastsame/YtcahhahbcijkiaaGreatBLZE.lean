import Derived.Test.YtcahhahbcijkiaaGreatMg39
import Derived.Test.YtcahhahbcijkiaaGreatBLZC
import Derived.Test.YtcahhahbcijkiaaGreatBLZD
namespace Go.Proofs.YtcahhahbcijkiaaGreat.Ag
open Go.RowKit
set_option linter.unusedSimpArgs false
set_option linter.unusedVariables false
def cirF (mo : Nat) (s : Gz) (K A B C : List Int) (P Q : Nat) : Nat → List Int × Gz
 | 1 => (K, s)
 | 3 => (A.map tu, s)
 | 4 => wbothF mo s A B
 | 5 => weitherF mo s A B
 | 6 => wunlikeF mo s A B
 | 7 => wimpliedF mo s A B
 | 8 => sameF mo s A B
 | 9 => wchoiceF mo s (A.getD 0 0) B C
 | 10 => (A.map tu, s)
 | 11 => negF mo s 1 A
 | 12 => wbothF mo s A B
 | 13 => weitherF mo s A B
 | 14 => wunlikeF mo s A B
 | 15 => wnotBothF mo s A B
 | 16 => wneitherF mo s A B
 | 17 => wlikeF mo s A B
 | 18 => sumF mo s A B
 | 19 => diffF mo s A B
 | 20 => prodF mo s A B
 | 21 => quoF mo s A B
 | 22 => remF mo s A B
 | 23 => squoF mo s A B
 | 24 => sremF mo s A B
 | 25 => smodF mo s A B
 | 26 => shlF mo s A B
 | 27 => shiftF mo s A B 0
 | 28 => shiftF mo s A B (A.getD (A.length - 1) 0)
 | 29 => lessF mo s A B
 | 30 => turnP (lessF mo s B A)
 | 31 => lessF mo s B A
 | 32 => turnP (lessF mo s A B)
 | 33 => slessF mo s A B
 | 34 => turnP (slessF mo s B A)
 | 35 => slessF mo s B A
 | 36 => turnP (slessF mo s A B)
 | 37 => sameF mo s A B
 | 38 => (B ++ A, s)
 | 39 => ((A.take (P + 1)).drop Q, s)
 | 40 => (A ++ List.replicate P 0, s)
 | 41 => (A ++ List.replicate P (A.getD (A.length - 1) 0), s)
 | 42 => (A.drop (A.length - P % A.length) ++ A.take (A.length - P % A.length), s)
 | 43 => (A.drop (P % A.length) ++ A.take (P % A.length), s)
 | 44 => (repW A P, s)
 | _ => ([], s)
def cirP (K A B C : List Int) (P Q n : Nat) : Nat → Prop
 | 1 => K.length = n
 | 3 => A.length = n
 | 4 => A.length = B.length ∧ n = A.length
 | 5 => A.length = B.length ∧ n = A.length
 | 6 => A.length = B.length ∧ n = A.length
 | 7 => A.length = B.length ∧ n = A.length
 | 8 => A.length = B.length ∧ n = 1
 | 9 => 0 < A.length ∧ B.length = C.length ∧ n = B.length
 | 10 => A.length = n
 | 11 => A.length = n
 | 12 => A.length = B.length ∧ n = A.length
 | 13 => A.length = B.length ∧ n = A.length
 | 14 => A.length = B.length ∧ n = A.length
 | 15 => A.length = B.length ∧ n = A.length
 | 16 => A.length = B.length ∧ n = A.length
 | 17 => A.length = B.length ∧ n = A.length
 | 18 => A.length = B.length ∧ n = A.length
 | 19 => A.length = B.length ∧ n = A.length
 | 20 => A.length = B.length ∧ n = A.length
 | 21 => A.length = B.length ∧ n = A.length
 | 22 => A.length = B.length ∧ n = A.length
 | 23 => 0 < A.length ∧ A.length = B.length ∧ n = A.length
 | 24 => 0 < A.length ∧ A.length = B.length ∧ n = A.length
 | 25 => 0 < A.length ∧ A.length = B.length ∧ n = A.length
 | 26 => 0 < A.length ∧ A.length = B.length ∧ n = A.length
 | 27 => 0 < A.length ∧ A.length = B.length ∧ n = A.length
 | 28 => 0 < A.length ∧ A.length = B.length ∧ n = A.length
 | 29 => A.length = B.length ∧ n = 1
 | 30 => A.length = B.length ∧ n = 1
 | 31 => A.length = B.length ∧ n = 1
 | 32 => A.length = B.length ∧ n = 1
 | 33 => 0 < A.length ∧ A.length = B.length ∧ n = 1
 | 34 => 0 < A.length ∧ A.length = B.length ∧ n = 1
 | 35 => 0 < A.length ∧ A.length = B.length ∧ n = 1
 | 36 => 0 < A.length ∧ A.length = B.length ∧ n = 1
 | 37 => A.length = B.length ∧ n = 1
 | 38 => n = A.length + B.length
 | 39 => Q ≤ P ∧ P < A.length ∧ n = P + 1 - Q
 | 40 => n = A.length + P
 | 41 => 0 < A.length ∧ n = A.length + P
 | 42 => 0 < A.length ∧ P ≤ 20000 ∧ n = A.length
 | 43 => 0 < A.length ∧ P ≤ 20000 ∧ n = A.length
 | 44 => P ≤ 20000 ∧ n = P * A.length
 | _ => False
section
variable {w : World} {F : Nat → Prop} {gs g mo : Nat} {s : Gz} {ua ub uc : Value} {A B C K : List Int} {so na nb nc W lo hi : Int} {nm : ByteArray} {P Q n : Nat}
theorem cir_1 (h : Gn w F gs g mo s) (hA : Wd w (FG F gs) ua A) (hB : Wd w (FG F gs) ub B) (hC : Wd w (FG F gs) uc C) (oA : Oks s A) (oB : Oks s B) (oC : Oks s C) (la : A.length ≤ 1000) (lb : B.length ≤ 1000) (ln : n ≤ 1000) (hq : cirP K A B C P Q n 1) (hK : ∀ wx, Below w.heap.size w wx → Calls Tryz.prog 64 #[.agg #[.int .i64 W, .int .u64 lo, .int .u64 hi]] wx fun ev w' => ∃ u', ev = .returned u' ∧ Wd w' (FG F gs) u' K ∧ Below wx.heap.size wx w') (oK : Oks s K) :
  Calls Tryz.prog 49 #[.pointer (some ⟨gs, 0, none⟩), .agg #[.int .i64 1, .int .i64 so, .int .i64 na, .int .i64 nb, .int .i64 nc, .int .i64 (P : Int), .int .i64 (Q : Int), .int .i64 W, .int .u64 lo, .int .u64 hi, .string nm], ua, ub, uc] w (WG w F gs g mo (cirF mo s K A B C P Q 1)) ∧ WOk s (cirF mo s K A B C P Q 1) n := by
 have hp := h.pos
 replace hq : K.length = n := hq
 exact ⟨circ_constant h (fun wx => arity_1 wx) hK, ⟨Pg.refl _, hq, oK⟩⟩
theorem cir_3 (h : Gn w F gs g mo s) (hA : Wd w (FG F gs) ua A) (hB : Wd w (FG F gs) ub B) (hC : Wd w (FG F gs) uc C) (oA : Oks s A) (oB : Oks s B) (oC : Oks s C) (la : A.length ≤ 1000) (lb : B.length ≤ 1000) (ln : n ≤ 1000) (hq : cirP K A B C P Q n 3) :
  Calls Tryz.prog 49 #[.pointer (some ⟨gs, 0, none⟩), .agg #[.int .i64 3, .int .i64 so, .int .i64 na, .int .i64 nb, .int .i64 nc, .int .i64 (P : Int), .int .i64 (Q : Int), .int .i64 W, .int .u64 lo, .int .u64 hi, .string nm], ua, ub, uc] w (WG w F gs g mo (cirF mo s K A B C P Q 3)) ∧ WOk s (cirF mo s K A B C P Q 3) n := by
 have hp := h.pos
 replace hq : A.length = n := hq
 exact ⟨circ_complement (R := (A.map tu, s)) (fun wx => arity_3 wx) (fun wx => ofOne_3 wx gs) (fun wx hb => complement_any (h.below hb) (hA.below hb) oA), ⟨Pg.refl _, by show (A.map tu).length = n; rw [List.length_map]; exact hq, oA.tu⟩⟩
theorem cir_4 (h : Gn w F gs g mo s) (hA : Wd w (FG F gs) ua A) (hB : Wd w (FG F gs) ub B) (hC : Wd w (FG F gs) uc C) (oA : Oks s A) (oB : Oks s B) (oC : Oks s C) (la : A.length ≤ 1000) (lb : B.length ≤ 1000) (ln : n ≤ 1000) (hq : cirP K A B C P Q n 4) :
  Calls Tryz.prog 49 #[.pointer (some ⟨gs, 0, none⟩), .agg #[.int .i64 4, .int .i64 so, .int .i64 na, .int .i64 nb, .int .i64 nc, .int .i64 (P : Int), .int .i64 (Q : Int), .int .i64 W, .int .u64 lo, .int .u64 hi, .string nm], ua, ub, uc] w (WG w F gs g mo (cirF mo s K A B C P Q 4)) ∧ WOk s (cirF mo s K A B C P Q 4) n := by
 have hp := h.pos
 replace hq : A.length = B.length ∧ n = A.length := hq
 exact ⟨circ_both (R := wbothF mo s A B) (fun wx => arity_4 wx) (fun wx => ofTwo_4 wx gs) (fun wx hb => wboth_any (h.below hb) (hA.below hb) (hB.below hb) (by omega) oA oB), hq.2 ▸ wboth_wok hp oA oB (by omega)⟩
theorem cir_5 (h : Gn w F gs g mo s) (hA : Wd w (FG F gs) ua A) (hB : Wd w (FG F gs) ub B) (hC : Wd w (FG F gs) uc C) (oA : Oks s A) (oB : Oks s B) (oC : Oks s C) (la : A.length ≤ 1000) (lb : B.length ≤ 1000) (ln : n ≤ 1000) (hq : cirP K A B C P Q n 5) :
  Calls Tryz.prog 49 #[.pointer (some ⟨gs, 0, none⟩), .agg #[.int .i64 5, .int .i64 so, .int .i64 na, .int .i64 nb, .int .i64 nc, .int .i64 (P : Int), .int .i64 (Q : Int), .int .i64 W, .int .u64 lo, .int .u64 hi, .string nm], ua, ub, uc] w (WG w F gs g mo (cirF mo s K A B C P Q 5)) ∧ WOk s (cirF mo s K A B C P Q 5) n := by
 have hp := h.pos
 replace hq : A.length = B.length ∧ n = A.length := hq
 exact ⟨circ_either (R := weitherF mo s A B) (fun wx => arity_5 wx) (fun wx => ofTwo_5 wx gs) (fun wx hb => weither_any (h.below hb) (hA.below hb) (hB.below hb) (by omega) oA oB), hq.2 ▸ weither_wok hp oA oB (by omega)⟩
theorem cir_6 (h : Gn w F gs g mo s) (hA : Wd w (FG F gs) ua A) (hB : Wd w (FG F gs) ub B) (hC : Wd w (FG F gs) uc C) (oA : Oks s A) (oB : Oks s B) (oC : Oks s C) (la : A.length ≤ 1000) (lb : B.length ≤ 1000) (ln : n ≤ 1000) (hq : cirP K A B C P Q n 6) :
  Calls Tryz.prog 49 #[.pointer (some ⟨gs, 0, none⟩), .agg #[.int .i64 6, .int .i64 so, .int .i64 na, .int .i64 nb, .int .i64 nc, .int .i64 (P : Int), .int .i64 (Q : Int), .int .i64 W, .int .u64 lo, .int .u64 hi, .string nm], ua, ub, uc] w (WG w F gs g mo (cirF mo s K A B C P Q 6)) ∧ WOk s (cirF mo s K A B C P Q 6) n := by
 have hp := h.pos
 replace hq : A.length = B.length ∧ n = A.length := hq
 exact ⟨circ_unlike (R := wunlikeF mo s A B) (fun wx => arity_6 wx) (fun wx => ofTwo_6 wx gs) (fun wx hb => wunlike_any (h.below hb) (hA.below hb) (hB.below hb) (by omega) oA oB), hq.2 ▸ wunlike_wok hp oA oB (by omega)⟩
theorem cir_7 (h : Gn w F gs g mo s) (hA : Wd w (FG F gs) ua A) (hB : Wd w (FG F gs) ub B) (hC : Wd w (FG F gs) uc C) (oA : Oks s A) (oB : Oks s B) (oC : Oks s C) (la : A.length ≤ 1000) (lb : B.length ≤ 1000) (ln : n ≤ 1000) (hq : cirP K A B C P Q n 7) :
  Calls Tryz.prog 49 #[.pointer (some ⟨gs, 0, none⟩), .agg #[.int .i64 7, .int .i64 so, .int .i64 na, .int .i64 nb, .int .i64 nc, .int .i64 (P : Int), .int .i64 (Q : Int), .int .i64 W, .int .u64 lo, .int .u64 hi, .string nm], ua, ub, uc] w (WG w F gs g mo (cirF mo s K A B C P Q 7)) ∧ WOk s (cirF mo s K A B C P Q 7) n := by
 have hp := h.pos
 replace hq : A.length = B.length ∧ n = A.length := hq
 exact ⟨circ_implied (R := wimpliedF mo s A B) (fun wx => arity_7 wx) (fun wx => ofTwo_7 wx gs) (fun wx hb => wimplied_any (h.below hb) (hA.below hb) (hB.below hb) (by omega) oA oB), hq.2 ▸ wimplied_wok hp oA oB (by omega)⟩
theorem cir_8 (h : Gn w F gs g mo s) (hA : Wd w (FG F gs) ua A) (hB : Wd w (FG F gs) ub B) (hC : Wd w (FG F gs) uc C) (oA : Oks s A) (oB : Oks s B) (oC : Oks s C) (la : A.length ≤ 1000) (lb : B.length ≤ 1000) (ln : n ≤ 1000) (hq : cirP K A B C P Q n 8) :
  Calls Tryz.prog 49 #[.pointer (some ⟨gs, 0, none⟩), .agg #[.int .i64 8, .int .i64 so, .int .i64 na, .int .i64 nb, .int .i64 nc, .int .i64 (P : Int), .int .i64 (Q : Int), .int .i64 W, .int .u64 lo, .int .u64 hi, .string nm], ua, ub, uc] w (WG w F gs g mo (cirF mo s K A B C P Q 8)) ∧ WOk s (cirF mo s K A B C P Q 8) n := by
 have hp := h.pos
 replace hq : A.length = B.length ∧ n = 1 := hq
 exact ⟨circ_same (R := sameF mo s A B) (fun wx => arity_8 wx) (fun wx => ofTwo_8 wx gs) (fun wx hb => same_any (h.below hb) (hA.below hb) (hB.below hb) hq.1 oA oB), hq.2 ▸ same_wok hp oA oB hq.1⟩
theorem cir_9 (h : Gn w F gs g mo s) (hA : Wd w (FG F gs) ua A) (hB : Wd w (FG F gs) ub B) (hC : Wd w (FG F gs) uc C) (oA : Oks s A) (oB : Oks s B) (oC : Oks s C) (la : A.length ≤ 1000) (lb : B.length ≤ 1000) (ln : n ≤ 1000) (hq : cirP K A B C P Q n 9) :
  Calls Tryz.prog 49 #[.pointer (some ⟨gs, 0, none⟩), .agg #[.int .i64 9, .int .i64 so, .int .i64 na, .int .i64 nb, .int .i64 nc, .int .i64 (P : Int), .int .i64 (Q : Int), .int .i64 W, .int .u64 lo, .int .u64 hi, .string nm], ua, ub, uc] w (WG w F gs g mo (cirF mo s K A B C P Q 9)) ∧ WOk s (cirF mo s K A B C P Q 9) n := by
 have hp := h.pos
 replace hq : 0 < A.length ∧ B.length = C.length ∧ n = B.length := hq
 exact ⟨circ_choice (R := wchoiceF mo s (A.getD 0 0) B C) hA hq.1 (fun wx => arity_9 wx) (fun wx hb => wchoice_any (h.below hb) (getD_okz hp oA) (hB.below hb) (hC.below hb) (by omega) oB oC), hq.2.2 ▸ wchoice_wok hp oB oC (by omega)⟩
theorem cir_10 (h : Gn w F gs g mo s) (hA : Wd w (FG F gs) ua A) (hB : Wd w (FG F gs) ub B) (hC : Wd w (FG F gs) uc C) (oA : Oks s A) (oB : Oks s B) (oC : Oks s C) (la : A.length ≤ 1000) (lb : B.length ≤ 1000) (ln : n ≤ 1000) (hq : cirP K A B C P Q n 10) :
  Calls Tryz.prog 49 #[.pointer (some ⟨gs, 0, none⟩), .agg #[.int .i64 10, .int .i64 so, .int .i64 na, .int .i64 nb, .int .i64 nc, .int .i64 (P : Int), .int .i64 (Q : Int), .int .i64 W, .int .u64 lo, .int .u64 hi, .string nm], ua, ub, uc] w (WG w F gs g mo (cirF mo s K A B C P Q 10)) ∧ WOk s (cirF mo s K A B C P Q 10) n := by
 have hp := h.pos
 replace hq : A.length = n := hq
 exact ⟨circ_complement (R := (A.map tu, s)) (fun wx => arity_10 wx) (fun wx => ofOne_10 wx gs) (fun wx hb => complement_any (h.below hb) (hA.below hb) oA), ⟨Pg.refl _, by show (A.map tu).length = n; rw [List.length_map]; exact hq, oA.tu⟩⟩
theorem cir_11 (h : Gn w F gs g mo s) (hA : Wd w (FG F gs) ua A) (hB : Wd w (FG F gs) ub B) (hC : Wd w (FG F gs) uc C) (oA : Oks s A) (oB : Oks s B) (oC : Oks s C) (la : A.length ≤ 1000) (lb : B.length ≤ 1000) (ln : n ≤ 1000) (hq : cirP K A B C P Q n 11) :
  Calls Tryz.prog 49 #[.pointer (some ⟨gs, 0, none⟩), .agg #[.int .i64 11, .int .i64 so, .int .i64 na, .int .i64 nb, .int .i64 nc, .int .i64 (P : Int), .int .i64 (Q : Int), .int .i64 W, .int .u64 lo, .int .u64 hi, .string nm], ua, ub, uc] w (WG w F gs g mo (cirF mo s K A B C P Q 11)) ∧ WOk s (cirF mo s K A B C P Q 11) n := by
 have hp := h.pos
 replace hq : A.length = n := hq
 exact ⟨circ_negation (R := negF mo s 1 A) (fun wx => arity_11 wx) (fun wx => ofOne_11 wx gs) (fun wx hb => negation_any (h.below hb) (hA.below hb) oA), hq ▸ neg_wok hp⟩
theorem cir_12 (h : Gn w F gs g mo s) (hA : Wd w (FG F gs) ua A) (hB : Wd w (FG F gs) ub B) (hC : Wd w (FG F gs) uc C) (oA : Oks s A) (oB : Oks s B) (oC : Oks s C) (la : A.length ≤ 1000) (lb : B.length ≤ 1000) (ln : n ≤ 1000) (hq : cirP K A B C P Q n 12) :
  Calls Tryz.prog 49 #[.pointer (some ⟨gs, 0, none⟩), .agg #[.int .i64 12, .int .i64 so, .int .i64 na, .int .i64 nb, .int .i64 nc, .int .i64 (P : Int), .int .i64 (Q : Int), .int .i64 W, .int .u64 lo, .int .u64 hi, .string nm], ua, ub, uc] w (WG w F gs g mo (cirF mo s K A B C P Q 12)) ∧ WOk s (cirF mo s K A B C P Q 12) n := by
 have hp := h.pos
 replace hq : A.length = B.length ∧ n = A.length := hq
 exact ⟨circ_both (R := wbothF mo s A B) (fun wx => arity_12 wx) (fun wx => ofTwo_12 wx gs) (fun wx hb => wboth_any (h.below hb) (hA.below hb) (hB.below hb) (by omega) oA oB), hq.2 ▸ wboth_wok hp oA oB (by omega)⟩
theorem cir_13 (h : Gn w F gs g mo s) (hA : Wd w (FG F gs) ua A) (hB : Wd w (FG F gs) ub B) (hC : Wd w (FG F gs) uc C) (oA : Oks s A) (oB : Oks s B) (oC : Oks s C) (la : A.length ≤ 1000) (lb : B.length ≤ 1000) (ln : n ≤ 1000) (hq : cirP K A B C P Q n 13) :
  Calls Tryz.prog 49 #[.pointer (some ⟨gs, 0, none⟩), .agg #[.int .i64 13, .int .i64 so, .int .i64 na, .int .i64 nb, .int .i64 nc, .int .i64 (P : Int), .int .i64 (Q : Int), .int .i64 W, .int .u64 lo, .int .u64 hi, .string nm], ua, ub, uc] w (WG w F gs g mo (cirF mo s K A B C P Q 13)) ∧ WOk s (cirF mo s K A B C P Q 13) n := by
 have hp := h.pos
 replace hq : A.length = B.length ∧ n = A.length := hq
 exact ⟨circ_either (R := weitherF mo s A B) (fun wx => arity_13 wx) (fun wx => ofTwo_13 wx gs) (fun wx hb => weither_any (h.below hb) (hA.below hb) (hB.below hb) (by omega) oA oB), hq.2 ▸ weither_wok hp oA oB (by omega)⟩
theorem cir_14 (h : Gn w F gs g mo s) (hA : Wd w (FG F gs) ua A) (hB : Wd w (FG F gs) ub B) (hC : Wd w (FG F gs) uc C) (oA : Oks s A) (oB : Oks s B) (oC : Oks s C) (la : A.length ≤ 1000) (lb : B.length ≤ 1000) (ln : n ≤ 1000) (hq : cirP K A B C P Q n 14) :
  Calls Tryz.prog 49 #[.pointer (some ⟨gs, 0, none⟩), .agg #[.int .i64 14, .int .i64 so, .int .i64 na, .int .i64 nb, .int .i64 nc, .int .i64 (P : Int), .int .i64 (Q : Int), .int .i64 W, .int .u64 lo, .int .u64 hi, .string nm], ua, ub, uc] w (WG w F gs g mo (cirF mo s K A B C P Q 14)) ∧ WOk s (cirF mo s K A B C P Q 14) n := by
 have hp := h.pos
 replace hq : A.length = B.length ∧ n = A.length := hq
 exact ⟨circ_unlike (R := wunlikeF mo s A B) (fun wx => arity_14 wx) (fun wx => ofTwo_14 wx gs) (fun wx hb => wunlike_any (h.below hb) (hA.below hb) (hB.below hb) (by omega) oA oB), hq.2 ▸ wunlike_wok hp oA oB (by omega)⟩
theorem cir_15 (h : Gn w F gs g mo s) (hA : Wd w (FG F gs) ua A) (hB : Wd w (FG F gs) ub B) (hC : Wd w (FG F gs) uc C) (oA : Oks s A) (oB : Oks s B) (oC : Oks s C) (la : A.length ≤ 1000) (lb : B.length ≤ 1000) (ln : n ≤ 1000) (hq : cirP K A B C P Q n 15) :
  Calls Tryz.prog 49 #[.pointer (some ⟨gs, 0, none⟩), .agg #[.int .i64 15, .int .i64 so, .int .i64 na, .int .i64 nb, .int .i64 nc, .int .i64 (P : Int), .int .i64 (Q : Int), .int .i64 W, .int .u64 lo, .int .u64 hi, .string nm], ua, ub, uc] w (WG w F gs g mo (cirF mo s K A B C P Q 15)) ∧ WOk s (cirF mo s K A B C P Q 15) n := by
 have hp := h.pos
 replace hq : A.length = B.length ∧ n = A.length := hq
 exact ⟨circ_notBoth (R := wnotBothF mo s A B) (fun wx => arity_15 wx) (fun wx => ofTwo_15 wx gs) (fun wx hb => wnotBoth_any (h.below hb) (hA.below hb) (hB.below hb) (by omega) oA oB), hq.2 ▸ wnotBoth_wok hp oA oB (by omega)⟩
theorem cir_16 (h : Gn w F gs g mo s) (hA : Wd w (FG F gs) ua A) (hB : Wd w (FG F gs) ub B) (hC : Wd w (FG F gs) uc C) (oA : Oks s A) (oB : Oks s B) (oC : Oks s C) (la : A.length ≤ 1000) (lb : B.length ≤ 1000) (ln : n ≤ 1000) (hq : cirP K A B C P Q n 16) :
  Calls Tryz.prog 49 #[.pointer (some ⟨gs, 0, none⟩), .agg #[.int .i64 16, .int .i64 so, .int .i64 na, .int .i64 nb, .int .i64 nc, .int .i64 (P : Int), .int .i64 (Q : Int), .int .i64 W, .int .u64 lo, .int .u64 hi, .string nm], ua, ub, uc] w (WG w F gs g mo (cirF mo s K A B C P Q 16)) ∧ WOk s (cirF mo s K A B C P Q 16) n := by
 have hp := h.pos
 replace hq : A.length = B.length ∧ n = A.length := hq
 exact ⟨circ_neither (R := wneitherF mo s A B) (fun wx => arity_16 wx) (fun wx => ofTwo_16 wx gs) (fun wx hb => wneither_any (h.below hb) (hA.below hb) (hB.below hb) (by omega) oA oB), hq.2 ▸ wneither_wok hp oA oB (by omega)⟩
theorem cir_17 (h : Gn w F gs g mo s) (hA : Wd w (FG F gs) ua A) (hB : Wd w (FG F gs) ub B) (hC : Wd w (FG F gs) uc C) (oA : Oks s A) (oB : Oks s B) (oC : Oks s C) (la : A.length ≤ 1000) (lb : B.length ≤ 1000) (ln : n ≤ 1000) (hq : cirP K A B C P Q n 17) :
  Calls Tryz.prog 49 #[.pointer (some ⟨gs, 0, none⟩), .agg #[.int .i64 17, .int .i64 so, .int .i64 na, .int .i64 nb, .int .i64 nc, .int .i64 (P : Int), .int .i64 (Q : Int), .int .i64 W, .int .u64 lo, .int .u64 hi, .string nm], ua, ub, uc] w (WG w F gs g mo (cirF mo s K A B C P Q 17)) ∧ WOk s (cirF mo s K A B C P Q 17) n := by
 have hp := h.pos
 replace hq : A.length = B.length ∧ n = A.length := hq
 exact ⟨circ_like (R := wlikeF mo s A B) (fun wx => arity_17 wx) (fun wx => ofTwo_17 wx gs) (fun wx hb => wlike_any (h.below hb) (hA.below hb) (hB.below hb) (by omega) oA oB), hq.2 ▸ wlike_wok hp oA oB (by omega)⟩
theorem cir_18 (h : Gn w F gs g mo s) (hA : Wd w (FG F gs) ua A) (hB : Wd w (FG F gs) ub B) (hC : Wd w (FG F gs) uc C) (oA : Oks s A) (oB : Oks s B) (oC : Oks s C) (la : A.length ≤ 1000) (lb : B.length ≤ 1000) (ln : n ≤ 1000) (hq : cirP K A B C P Q n 18) :
  Calls Tryz.prog 49 #[.pointer (some ⟨gs, 0, none⟩), .agg #[.int .i64 18, .int .i64 so, .int .i64 na, .int .i64 nb, .int .i64 nc, .int .i64 (P : Int), .int .i64 (Q : Int), .int .i64 W, .int .u64 lo, .int .u64 hi, .string nm], ua, ub, uc] w (WG w F gs g mo (cirF mo s K A B C P Q 18)) ∧ WOk s (cirF mo s K A B C P Q 18) n := by
 have hp := h.pos
 replace hq : A.length = B.length ∧ n = A.length := hq
 exact ⟨circ_sum (R := sumF mo s A B) (fun wx => arity_18 wx) (fun wx => ofTwo_18 wx gs) (fun wx hb => sum_any (h.below hb) (hA.below hb) (hB.below hb) (by omega) oA oB), hq.2 ▸ sum_wok hp⟩
theorem cir_19 (h : Gn w F gs g mo s) (hA : Wd w (FG F gs) ua A) (hB : Wd w (FG F gs) ub B) (hC : Wd w (FG F gs) uc C) (oA : Oks s A) (oB : Oks s B) (oC : Oks s C) (la : A.length ≤ 1000) (lb : B.length ≤ 1000) (ln : n ≤ 1000) (hq : cirP K A B C P Q n 19) :
  Calls Tryz.prog 49 #[.pointer (some ⟨gs, 0, none⟩), .agg #[.int .i64 19, .int .i64 so, .int .i64 na, .int .i64 nb, .int .i64 nc, .int .i64 (P : Int), .int .i64 (Q : Int), .int .i64 W, .int .u64 lo, .int .u64 hi, .string nm], ua, ub, uc] w (WG w F gs g mo (cirF mo s K A B C P Q 19)) ∧ WOk s (cirF mo s K A B C P Q 19) n := by
 have hp := h.pos
 replace hq : A.length = B.length ∧ n = A.length := hq
 exact ⟨circ_difference (R := diffF mo s A B) (fun wx => arity_19 wx) (fun wx => ofTwo_19 wx gs) (fun wx hb => difference_any (h.below hb) (hA.below hb) (hB.below hb) hq.1 oA oB), hq.2 ▸ diff_wok hp⟩
theorem cir_20 (h : Gn w F gs g mo s) (hA : Wd w (FG F gs) ua A) (hB : Wd w (FG F gs) ub B) (hC : Wd w (FG F gs) uc C) (oA : Oks s A) (oB : Oks s B) (oC : Oks s C) (la : A.length ≤ 1000) (lb : B.length ≤ 1000) (ln : n ≤ 1000) (hq : cirP K A B C P Q n 20) :
  Calls Tryz.prog 49 #[.pointer (some ⟨gs, 0, none⟩), .agg #[.int .i64 20, .int .i64 so, .int .i64 na, .int .i64 nb, .int .i64 nc, .int .i64 (P : Int), .int .i64 (Q : Int), .int .i64 W, .int .u64 lo, .int .u64 hi, .string nm], ua, ub, uc] w (WG w F gs g mo (cirF mo s K A B C P Q 20)) ∧ WOk s (cirF mo s K A B C P Q 20) n := by
 have hp := h.pos
 replace hq : A.length = B.length ∧ n = A.length := hq
 exact ⟨circ_product (R := prodF mo s A B) (fun wx => arity_20 wx) (fun wx => ofTwo_20 wx gs) (fun wx hb => product_any (h.below hb) (hA.below hb) (hB.below hb) hq.1 oA oB (by omega)), hq.2 ▸ prod_wok hp hq.1 oA oB⟩
theorem cir_21 (h : Gn w F gs g mo s) (hA : Wd w (FG F gs) ua A) (hB : Wd w (FG F gs) ub B) (hC : Wd w (FG F gs) uc C) (oA : Oks s A) (oB : Oks s B) (oC : Oks s C) (la : A.length ≤ 1000) (lb : B.length ≤ 1000) (ln : n ≤ 1000) (hq : cirP K A B C P Q n 21) :
  Calls Tryz.prog 49 #[.pointer (some ⟨gs, 0, none⟩), .agg #[.int .i64 21, .int .i64 so, .int .i64 na, .int .i64 nb, .int .i64 nc, .int .i64 (P : Int), .int .i64 (Q : Int), .int .i64 W, .int .u64 lo, .int .u64 hi, .string nm], ua, ub, uc] w (WG w F gs g mo (cirF mo s K A B C P Q 21)) ∧ WOk s (cirF mo s K A B C P Q 21) n := by
 have hp := h.pos
 replace hq : A.length = B.length ∧ n = A.length := hq
 exact ⟨circ_quotient (R := quoF mo s A B) (fun wx => arity_21 wx) (fun wx => ofTwo_21 wx gs) (fun wx hb => quotient_any (h.below hb) (hA.below hb) (hB.below hb) oA oB (by omega) (by omega)), hq.2 ▸ quo_wok hp (by omega) oA oB⟩
theorem cir_22 (h : Gn w F gs g mo s) (hA : Wd w (FG F gs) ua A) (hB : Wd w (FG F gs) ub B) (hC : Wd w (FG F gs) uc C) (oA : Oks s A) (oB : Oks s B) (oC : Oks s C) (la : A.length ≤ 1000) (lb : B.length ≤ 1000) (ln : n ≤ 1000) (hq : cirP K A B C P Q n 22) :
  Calls Tryz.prog 49 #[.pointer (some ⟨gs, 0, none⟩), .agg #[.int .i64 22, .int .i64 so, .int .i64 na, .int .i64 nb, .int .i64 nc, .int .i64 (P : Int), .int .i64 (Q : Int), .int .i64 W, .int .u64 lo, .int .u64 hi, .string nm], ua, ub, uc] w (WG w F gs g mo (cirF mo s K A B C P Q 22)) ∧ WOk s (cirF mo s K A B C P Q 22) n := by
 have hp := h.pos
 replace hq : A.length = B.length ∧ n = A.length := hq
 exact ⟨circ_rest (R := remF mo s A B) (fun wx => arity_22 wx) (fun wx => ofTwo_22 wx gs) (fun wx hb => rest_any (h.below hb) (hA.below hb) (hB.below hb) oA oB (by omega) (by omega)), hq.2 ▸ rem_wok hp (by omega) oA oB⟩
theorem cir_23 (h : Gn w F gs g mo s) (hA : Wd w (FG F gs) ua A) (hB : Wd w (FG F gs) ub B) (hC : Wd w (FG F gs) uc C) (oA : Oks s A) (oB : Oks s B) (oC : Oks s C) (la : A.length ≤ 1000) (lb : B.length ≤ 1000) (ln : n ≤ 1000) (hq : cirP K A B C P Q n 23) :
  Calls Tryz.prog 49 #[.pointer (some ⟨gs, 0, none⟩), .agg #[.int .i64 23, .int .i64 so, .int .i64 na, .int .i64 nb, .int .i64 nc, .int .i64 (P : Int), .int .i64 (Q : Int), .int .i64 W, .int .u64 lo, .int .u64 hi, .string nm], ua, ub, uc] w (WG w F gs g mo (cirF mo s K A B C P Q 23)) ∧ WOk s (cirF mo s K A B C P Q 23) n := by
 have hp := h.pos
 replace hq : 0 < A.length ∧ A.length = B.length ∧ n = A.length := hq
 exact ⟨circ_signedQuotient (R := squoF mo s A B) (fun wx => arity_23 wx) (fun wx => ofTwo_23 wx gs) (fun wx hb => signedQuotient_any (h.below hb) (hA.below hb) (hB.below hb) oA oB (by omega) (by omega) (by omega) (by omega)), hq.2.2 ▸ squo_wok hp (by omega)⟩
theorem cir_24 (h : Gn w F gs g mo s) (hA : Wd w (FG F gs) ua A) (hB : Wd w (FG F gs) ub B) (hC : Wd w (FG F gs) uc C) (oA : Oks s A) (oB : Oks s B) (oC : Oks s C) (la : A.length ≤ 1000) (lb : B.length ≤ 1000) (ln : n ≤ 1000) (hq : cirP K A B C P Q n 24) :
  Calls Tryz.prog 49 #[.pointer (some ⟨gs, 0, none⟩), .agg #[.int .i64 24, .int .i64 so, .int .i64 na, .int .i64 nb, .int .i64 nc, .int .i64 (P : Int), .int .i64 (Q : Int), .int .i64 W, .int .u64 lo, .int .u64 hi, .string nm], ua, ub, uc] w (WG w F gs g mo (cirF mo s K A B C P Q 24)) ∧ WOk s (cirF mo s K A B C P Q 24) n := by
 have hp := h.pos
 replace hq : 0 < A.length ∧ A.length = B.length ∧ n = A.length := hq
 exact ⟨circ_signedRest (R := sremF mo s A B) (fun wx => arity_24 wx) (fun wx => ofTwo_24 wx gs) (fun wx hb => signedRest_any (h.below hb) (hA.below hb) (hB.below hb) oA oB (by omega) (by omega) (by omega) (by omega)), hq.2.2 ▸ srem_wok hp (by omega)⟩
theorem cir_25 (h : Gn w F gs g mo s) (hA : Wd w (FG F gs) ua A) (hB : Wd w (FG F gs) ub B) (hC : Wd w (FG F gs) uc C) (oA : Oks s A) (oB : Oks s B) (oC : Oks s C) (la : A.length ≤ 1000) (lb : B.length ≤ 1000) (ln : n ≤ 1000) (hq : cirP K A B C P Q n 25) :
  Calls Tryz.prog 49 #[.pointer (some ⟨gs, 0, none⟩), .agg #[.int .i64 25, .int .i64 so, .int .i64 na, .int .i64 nb, .int .i64 nc, .int .i64 (P : Int), .int .i64 (Q : Int), .int .i64 W, .int .u64 lo, .int .u64 hi, .string nm], ua, ub, uc] w (WG w F gs g mo (cirF mo s K A B C P Q 25)) ∧ WOk s (cirF mo s K A B C P Q 25) n := by
 have hp := h.pos
 replace hq : 0 < A.length ∧ A.length = B.length ∧ n = A.length := hq
 exact ⟨circ_signedModulus (R := smodF mo s A B) (fun wx => arity_25 wx) (fun wx => ofTwo_25 wx gs) (fun wx hb => signedModulus_any (h.below hb) (hA.below hb) (hB.below hb) oA oB (by omega) (by omega) (by omega) hq.2.1), hq.2.2 ▸ smod_wok hp (by omega) oB⟩
theorem cir_26 (h : Gn w F gs g mo s) (hA : Wd w (FG F gs) ua A) (hB : Wd w (FG F gs) ub B) (hC : Wd w (FG F gs) uc C) (oA : Oks s A) (oB : Oks s B) (oC : Oks s C) (la : A.length ≤ 1000) (lb : B.length ≤ 1000) (ln : n ≤ 1000) (hq : cirP K A B C P Q n 26) :
  Calls Tryz.prog 49 #[.pointer (some ⟨gs, 0, none⟩), .agg #[.int .i64 26, .int .i64 so, .int .i64 na, .int .i64 nb, .int .i64 nc, .int .i64 (P : Int), .int .i64 (Q : Int), .int .i64 W, .int .u64 lo, .int .u64 hi, .string nm], ua, ub, uc] w (WG w F gs g mo (cirF mo s K A B C P Q 26)) ∧ WOk s (cirF mo s K A B C P Q 26) n := by
 have hp := h.pos
 replace hq : 0 < A.length ∧ A.length = B.length ∧ n = A.length := hq
 exact ⟨circ_shiftUp (R := shlF mo s A B) (fun wx => arity_26 wx) (fun wx => ofTwo_26 wx gs) (fun wx hb => shiftUp_any (h.below hb) (hA.below hb) (hB.below hb) hq.2.1 hq.1 oA oB), hq.2.2 ▸ shl_wok hp oA⟩
theorem cir_27 (h : Gn w F gs g mo s) (hA : Wd w (FG F gs) ua A) (hB : Wd w (FG F gs) ub B) (hC : Wd w (FG F gs) uc C) (oA : Oks s A) (oB : Oks s B) (oC : Oks s C) (la : A.length ≤ 1000) (lb : B.length ≤ 1000) (ln : n ≤ 1000) (hq : cirP K A B C P Q n 27) :
  Calls Tryz.prog 49 #[.pointer (some ⟨gs, 0, none⟩), .agg #[.int .i64 27, .int .i64 so, .int .i64 na, .int .i64 nb, .int .i64 nc, .int .i64 (P : Int), .int .i64 (Q : Int), .int .i64 W, .int .u64 lo, .int .u64 hi, .string nm], ua, ub, uc] w (WG w F gs g mo (cirF mo s K A B C P Q 27)) ∧ WOk s (cirF mo s K A B C P Q 27) n := by
 have hp := h.pos
 replace hq : 0 < A.length ∧ A.length = B.length ∧ n = A.length := hq
 exact ⟨circ_shiftDown (R := shiftF mo s A B 0) (fun wx => arity_27 wx) (fun wx => ofTwo_27 wx gs) (fun wx hb => shiftDown_any (h.below hb) (hA.below hb) (hB.below hb) hq.2.1 hq.1 oA oB), hq.2.2 ▸ shift_wok hp oA (OkG.zero hp)⟩
theorem cir_28 (h : Gn w F gs g mo s) (hA : Wd w (FG F gs) ua A) (hB : Wd w (FG F gs) ub B) (hC : Wd w (FG F gs) uc C) (oA : Oks s A) (oB : Oks s B) (oC : Oks s C) (la : A.length ≤ 1000) (lb : B.length ≤ 1000) (ln : n ≤ 1000) (hq : cirP K A B C P Q n 28) :
  Calls Tryz.prog 49 #[.pointer (some ⟨gs, 0, none⟩), .agg #[.int .i64 28, .int .i64 so, .int .i64 na, .int .i64 nb, .int .i64 nc, .int .i64 (P : Int), .int .i64 (Q : Int), .int .i64 W, .int .u64 lo, .int .u64 hi, .string nm], ua, ub, uc] w (WG w F gs g mo (cirF mo s K A B C P Q 28)) ∧ WOk s (cirF mo s K A B C P Q 28) n := by
 have hp := h.pos
 replace hq : 0 < A.length ∧ A.length = B.length ∧ n = A.length := hq
 exact ⟨circ_signedShiftDown (R := shiftF mo s A B (A.getD (A.length - 1) 0)) (fun wx => arity_28 wx) (fun wx => ofTwo_28 wx gs) (fun wx hb => signedShiftDown_any (h.below hb) (hA.below hb) (hB.below hb) hq.2.1 hq.1 oA oB), hq.2.2 ▸ shift_wok hp oA (getD_okz hp oA)⟩
theorem cir_29 (h : Gn w F gs g mo s) (hA : Wd w (FG F gs) ua A) (hB : Wd w (FG F gs) ub B) (hC : Wd w (FG F gs) uc C) (oA : Oks s A) (oB : Oks s B) (oC : Oks s C) (la : A.length ≤ 1000) (lb : B.length ≤ 1000) (ln : n ≤ 1000) (hq : cirP K A B C P Q n 29) :
  Calls Tryz.prog 49 #[.pointer (some ⟨gs, 0, none⟩), .agg #[.int .i64 29, .int .i64 so, .int .i64 na, .int .i64 nb, .int .i64 nc, .int .i64 (P : Int), .int .i64 (Q : Int), .int .i64 W, .int .u64 lo, .int .u64 hi, .string nm], ua, ub, uc] w (WG w F gs g mo (cirF mo s K A B C P Q 29)) ∧ WOk s (cirF mo s K A B C P Q 29) n := by
 have hp := h.pos
 replace hq : A.length = B.length ∧ n = 1 := hq
 exact ⟨circ_less (R := lessF mo s A B) (fun wx => arity_29 wx) (fun wx => ofTwo_29 wx gs) (fun wx hb => less_any (h.below hb) (hA.below hb) (hB.below hb) (by omega) oA oB), hq.2 ▸ less_wok hp oA⟩
theorem cir_30 (h : Gn w F gs g mo s) (hA : Wd w (FG F gs) ua A) (hB : Wd w (FG F gs) ub B) (hC : Wd w (FG F gs) uc C) (oA : Oks s A) (oB : Oks s B) (oC : Oks s C) (la : A.length ≤ 1000) (lb : B.length ≤ 1000) (ln : n ≤ 1000) (hq : cirP K A B C P Q n 30) :
  Calls Tryz.prog 49 #[.pointer (some ⟨gs, 0, none⟩), .agg #[.int .i64 30, .int .i64 so, .int .i64 na, .int .i64 nb, .int .i64 nc, .int .i64 (P : Int), .int .i64 (Q : Int), .int .i64 W, .int .u64 lo, .int .u64 hi, .string nm], ua, ub, uc] w (WG w F gs g mo (cirF mo s K A B C P Q 30)) ∧ WOk s (cirF mo s K A B C P Q 30) n := by
 have hp := h.pos
 replace hq : A.length = B.length ∧ n = 1 := hq
 exact ⟨circ_atMost (R := turnP (lessF mo s B A)) (fun wx => arity_30 wx) (fun wx => ofTwo_30 wx gs) (fun wx hb => atMost_any (h.below hb) (hA.below hb) (hB.below hb) hq.1 oA oB), hq.2 ▸ (less_wok hp oB).turnP⟩
theorem cir_31 (h : Gn w F gs g mo s) (hA : Wd w (FG F gs) ua A) (hB : Wd w (FG F gs) ub B) (hC : Wd w (FG F gs) uc C) (oA : Oks s A) (oB : Oks s B) (oC : Oks s C) (la : A.length ≤ 1000) (lb : B.length ≤ 1000) (ln : n ≤ 1000) (hq : cirP K A B C P Q n 31) :
  Calls Tryz.prog 49 #[.pointer (some ⟨gs, 0, none⟩), .agg #[.int .i64 31, .int .i64 so, .int .i64 na, .int .i64 nb, .int .i64 nc, .int .i64 (P : Int), .int .i64 (Q : Int), .int .i64 W, .int .u64 lo, .int .u64 hi, .string nm], ua, ub, uc] w (WG w F gs g mo (cirF mo s K A B C P Q 31)) ∧ WOk s (cirF mo s K A B C P Q 31) n := by
 have hp := h.pos
 replace hq : A.length = B.length ∧ n = 1 := hq
 exact ⟨circ_greater (R := lessF mo s B A) (fun wx => arity_31 wx) (fun wx => ofTwo_31 wx gs) (fun wx hb => greater_any (h.below hb) (hA.below hb) (hB.below hb) hq.1 oA oB), hq.2 ▸ less_wok hp oB⟩
theorem cir_32 (h : Gn w F gs g mo s) (hA : Wd w (FG F gs) ua A) (hB : Wd w (FG F gs) ub B) (hC : Wd w (FG F gs) uc C) (oA : Oks s A) (oB : Oks s B) (oC : Oks s C) (la : A.length ≤ 1000) (lb : B.length ≤ 1000) (ln : n ≤ 1000) (hq : cirP K A B C P Q n 32) :
  Calls Tryz.prog 49 #[.pointer (some ⟨gs, 0, none⟩), .agg #[.int .i64 32, .int .i64 so, .int .i64 na, .int .i64 nb, .int .i64 nc, .int .i64 (P : Int), .int .i64 (Q : Int), .int .i64 W, .int .u64 lo, .int .u64 hi, .string nm], ua, ub, uc] w (WG w F gs g mo (cirF mo s K A B C P Q 32)) ∧ WOk s (cirF mo s K A B C P Q 32) n := by
 have hp := h.pos
 replace hq : A.length = B.length ∧ n = 1 := hq
 exact ⟨circ_atLeast (R := turnP (lessF mo s A B)) (fun wx => arity_32 wx) (fun wx => ofTwo_32 wx gs) (fun wx hb => atLeast_any (h.below hb) (hA.below hb) (hB.below hb) hq.1 oA oB), hq.2 ▸ (less_wok hp oA).turnP⟩
theorem cir_33 (h : Gn w F gs g mo s) (hA : Wd w (FG F gs) ua A) (hB : Wd w (FG F gs) ub B) (hC : Wd w (FG F gs) uc C) (oA : Oks s A) (oB : Oks s B) (oC : Oks s C) (la : A.length ≤ 1000) (lb : B.length ≤ 1000) (ln : n ≤ 1000) (hq : cirP K A B C P Q n 33) :
  Calls Tryz.prog 49 #[.pointer (some ⟨gs, 0, none⟩), .agg #[.int .i64 33, .int .i64 so, .int .i64 na, .int .i64 nb, .int .i64 nc, .int .i64 (P : Int), .int .i64 (Q : Int), .int .i64 W, .int .u64 lo, .int .u64 hi, .string nm], ua, ub, uc] w (WG w F gs g mo (cirF mo s K A B C P Q 33)) ∧ WOk s (cirF mo s K A B C P Q 33) n := by
 have hp := h.pos
 replace hq : 0 < A.length ∧ A.length = B.length ∧ n = 1 := hq
 exact ⟨circ_signedLess (R := slessF mo s A B) (fun wx => arity_33 wx) (fun wx => ofTwo_33 wx gs) (fun wx hb => signedLess_any (h.below hb) (hA.below hb) (hB.below hb) hq.2.1 oA oB hq.1), hq.2.2 ▸ sless_wok hp oA hq.1⟩
theorem cir_34 (h : Gn w F gs g mo s) (hA : Wd w (FG F gs) ua A) (hB : Wd w (FG F gs) ub B) (hC : Wd w (FG F gs) uc C) (oA : Oks s A) (oB : Oks s B) (oC : Oks s C) (la : A.length ≤ 1000) (lb : B.length ≤ 1000) (ln : n ≤ 1000) (hq : cirP K A B C P Q n 34) :
  Calls Tryz.prog 49 #[.pointer (some ⟨gs, 0, none⟩), .agg #[.int .i64 34, .int .i64 so, .int .i64 na, .int .i64 nb, .int .i64 nc, .int .i64 (P : Int), .int .i64 (Q : Int), .int .i64 W, .int .u64 lo, .int .u64 hi, .string nm], ua, ub, uc] w (WG w F gs g mo (cirF mo s K A B C P Q 34)) ∧ WOk s (cirF mo s K A B C P Q 34) n := by
 have hp := h.pos
 replace hq : 0 < A.length ∧ A.length = B.length ∧ n = 1 := hq
 exact ⟨circ_signedAtMost (R := turnP (slessF mo s B A)) (fun wx => arity_34 wx) (fun wx => ofTwo_34 wx gs) (fun wx hb => signedAtMost_any (h.below hb) (hA.below hb) (hB.below hb) hq.2.1 oA oB hq.1), hq.2.2 ▸ (sless_wok hp oB (by omega)).turnP⟩
theorem cir_35 (h : Gn w F gs g mo s) (hA : Wd w (FG F gs) ua A) (hB : Wd w (FG F gs) ub B) (hC : Wd w (FG F gs) uc C) (oA : Oks s A) (oB : Oks s B) (oC : Oks s C) (la : A.length ≤ 1000) (lb : B.length ≤ 1000) (ln : n ≤ 1000) (hq : cirP K A B C P Q n 35) :
  Calls Tryz.prog 49 #[.pointer (some ⟨gs, 0, none⟩), .agg #[.int .i64 35, .int .i64 so, .int .i64 na, .int .i64 nb, .int .i64 nc, .int .i64 (P : Int), .int .i64 (Q : Int), .int .i64 W, .int .u64 lo, .int .u64 hi, .string nm], ua, ub, uc] w (WG w F gs g mo (cirF mo s K A B C P Q 35)) ∧ WOk s (cirF mo s K A B C P Q 35) n := by
 have hp := h.pos
 replace hq : 0 < A.length ∧ A.length = B.length ∧ n = 1 := hq
 exact ⟨circ_signedGreater (R := slessF mo s B A) (fun wx => arity_35 wx) (fun wx => ofTwo_35 wx gs) (fun wx hb => signedGreater_any (h.below hb) (hA.below hb) (hB.below hb) hq.2.1 oA oB hq.1), hq.2.2 ▸ sless_wok hp oB (by omega)⟩
theorem cir_36 (h : Gn w F gs g mo s) (hA : Wd w (FG F gs) ua A) (hB : Wd w (FG F gs) ub B) (hC : Wd w (FG F gs) uc C) (oA : Oks s A) (oB : Oks s B) (oC : Oks s C) (la : A.length ≤ 1000) (lb : B.length ≤ 1000) (ln : n ≤ 1000) (hq : cirP K A B C P Q n 36) :
  Calls Tryz.prog 49 #[.pointer (some ⟨gs, 0, none⟩), .agg #[.int .i64 36, .int .i64 so, .int .i64 na, .int .i64 nb, .int .i64 nc, .int .i64 (P : Int), .int .i64 (Q : Int), .int .i64 W, .int .u64 lo, .int .u64 hi, .string nm], ua, ub, uc] w (WG w F gs g mo (cirF mo s K A B C P Q 36)) ∧ WOk s (cirF mo s K A B C P Q 36) n := by
 have hp := h.pos
 replace hq : 0 < A.length ∧ A.length = B.length ∧ n = 1 := hq
 exact ⟨circ_signedAtLeast (R := turnP (slessF mo s A B)) (fun wx => arity_36 wx) (fun wx => ofTwo_36 wx gs) (fun wx hb => signedAtLeast_any (h.below hb) (hA.below hb) (hB.below hb) hq.2.1 oA oB hq.1), hq.2.2 ▸ (sless_wok hp oA hq.1).turnP⟩
theorem cir_37 (h : Gn w F gs g mo s) (hA : Wd w (FG F gs) ua A) (hB : Wd w (FG F gs) ub B) (hC : Wd w (FG F gs) uc C) (oA : Oks s A) (oB : Oks s B) (oC : Oks s C) (la : A.length ≤ 1000) (lb : B.length ≤ 1000) (ln : n ≤ 1000) (hq : cirP K A B C P Q n 37) :
  Calls Tryz.prog 49 #[.pointer (some ⟨gs, 0, none⟩), .agg #[.int .i64 37, .int .i64 so, .int .i64 na, .int .i64 nb, .int .i64 nc, .int .i64 (P : Int), .int .i64 (Q : Int), .int .i64 W, .int .u64 lo, .int .u64 hi, .string nm], ua, ub, uc] w (WG w F gs g mo (cirF mo s K A B C P Q 37)) ∧ WOk s (cirF mo s K A B C P Q 37) n := by
 have hp := h.pos
 replace hq : A.length = B.length ∧ n = 1 := hq
 exact ⟨circ_same (R := sameF mo s A B) (fun wx => arity_37 wx) (fun wx => ofTwo_37 wx gs) (fun wx hb => same_any (h.below hb) (hA.below hb) (hB.below hb) hq.1 oA oB), hq.2 ▸ same_wok hp oA oB hq.1⟩
theorem cir_38 (h : Gn w F gs g mo s) (hA : Wd w (FG F gs) ua A) (hB : Wd w (FG F gs) ub B) (hC : Wd w (FG F gs) uc C) (oA : Oks s A) (oB : Oks s B) (oC : Oks s C) (la : A.length ≤ 1000) (lb : B.length ≤ 1000) (ln : n ≤ 1000) (hq : cirP K A B C P Q n 38) :
  Calls Tryz.prog 49 #[.pointer (some ⟨gs, 0, none⟩), .agg #[.int .i64 38, .int .i64 so, .int .i64 na, .int .i64 nb, .int .i64 nc, .int .i64 (P : Int), .int .i64 (Q : Int), .int .i64 W, .int .u64 lo, .int .u64 hi, .string nm], ua, ub, uc] w (WG w F gs g mo (cirF mo s K A B C P Q 38)) ∧ WOk s (cirF mo s K A B C P Q 38) n := by
 have hp := h.pos
 replace hq : n = A.length + B.length := hq
 exact ⟨circ_joined (R := (B ++ A, s)) (fun wx => arity_38 wx) (fun wx => ofTwo_38 wx gs) (fun wx hb => joined_any (h.below hb) (hA.below hb) (hB.below hb) (by omega)), ⟨Pg.refl _, by show (B ++ A).length = n; rw [List.length_append]; omega, Oks.app oB oA⟩⟩
theorem cir_39 (h : Gn w F gs g mo s) (hA : Wd w (FG F gs) ua A) (hB : Wd w (FG F gs) ub B) (hC : Wd w (FG F gs) uc C) (oA : Oks s A) (oB : Oks s B) (oC : Oks s C) (la : A.length ≤ 1000) (lb : B.length ≤ 1000) (ln : n ≤ 1000) (hq : cirP K A B C P Q n 39) :
  Calls Tryz.prog 49 #[.pointer (some ⟨gs, 0, none⟩), .agg #[.int .i64 39, .int .i64 so, .int .i64 na, .int .i64 nb, .int .i64 nc, .int .i64 (P : Int), .int .i64 (Q : Int), .int .i64 W, .int .u64 lo, .int .u64 hi, .string nm], ua, ub, uc] w (WG w F gs g mo (cirF mo s K A B C P Q 39)) ∧ WOk s (cirF mo s K A B C P Q 39) n := by
 have hp := h.pos
 replace hq : Q ≤ P ∧ P < A.length ∧ n = P + 1 - Q := hq
 exact ⟨circ_extraction (R := ((A.take (P + 1)).drop Q, s)) (fun wx => arity_39 wx) (fun wx => ofOne_39 wx gs) (fun wx hb => extraction_any (h.below hb) (hA.below hb) hq.1 hq.2.1), ⟨Pg.refl _, by show ((A.take (P + 1)).drop Q).length = n; rw [List.length_drop, List.length_take]; omega, (oA.take).drop⟩⟩
theorem cir_40 (h : Gn w F gs g mo s) (hA : Wd w (FG F gs) ua A) (hB : Wd w (FG F gs) ub B) (hC : Wd w (FG F gs) uc C) (oA : Oks s A) (oB : Oks s B) (oC : Oks s C) (la : A.length ≤ 1000) (lb : B.length ≤ 1000) (ln : n ≤ 1000) (hq : cirP K A B C P Q n 40) :
  Calls Tryz.prog 49 #[.pointer (some ⟨gs, 0, none⟩), .agg #[.int .i64 40, .int .i64 so, .int .i64 na, .int .i64 nb, .int .i64 nc, .int .i64 (P : Int), .int .i64 (Q : Int), .int .i64 W, .int .u64 lo, .int .u64 hi, .string nm], ua, ub, uc] w (WG w F gs g mo (cirF mo s K A B C P Q 40)) ∧ WOk s (cirF mo s K A B C P Q 40) n := by
 have hp := h.pos
 replace hq : n = A.length + P := hq
 exact ⟨circ_zeroExtension (R := (A ++ List.replicate P 0, s)) (fun wx => arity_40 wx) (fun wx => ofOne_40 wx gs) (fun wx hb => zeroExtension_any (h.below hb) (hA.below hb) (by omega)), ⟨Pg.refl _, by show (A ++ List.replicate P 0).length = n; rw [List.length_append, List.length_replicate]; omega, Oks.app oA (Oks.rep (OkG.zero hp) _)⟩⟩
theorem cir_41 (h : Gn w F gs g mo s) (hA : Wd w (FG F gs) ua A) (hB : Wd w (FG F gs) ub B) (hC : Wd w (FG F gs) uc C) (oA : Oks s A) (oB : Oks s B) (oC : Oks s C) (la : A.length ≤ 1000) (lb : B.length ≤ 1000) (ln : n ≤ 1000) (hq : cirP K A B C P Q n 41) :
  Calls Tryz.prog 49 #[.pointer (some ⟨gs, 0, none⟩), .agg #[.int .i64 41, .int .i64 so, .int .i64 na, .int .i64 nb, .int .i64 nc, .int .i64 (P : Int), .int .i64 (Q : Int), .int .i64 W, .int .u64 lo, .int .u64 hi, .string nm], ua, ub, uc] w (WG w F gs g mo (cirF mo s K A B C P Q 41)) ∧ WOk s (cirF mo s K A B C P Q 41) n := by
 have hp := h.pos
 replace hq : 0 < A.length ∧ n = A.length + P := hq
 exact ⟨circ_signExtension (R := (A ++ List.replicate P (A.getD (A.length - 1) 0), s)) (fun wx => arity_41 wx) (fun wx => ofOne_41 wx gs) (fun wx hb => signExtension_any (h.below hb) (hA.below hb) hq.1 (by omega)), ⟨Pg.refl _, by show (A ++ List.replicate P _).length = n; rw [List.length_append, List.length_replicate]; omega, Oks.app oA (Oks.rep (getD_okz hp oA) _)⟩⟩
theorem cir_42 (h : Gn w F gs g mo s) (hA : Wd w (FG F gs) ua A) (hB : Wd w (FG F gs) ub B) (hC : Wd w (FG F gs) uc C) (oA : Oks s A) (oB : Oks s B) (oC : Oks s C) (la : A.length ≤ 1000) (lb : B.length ≤ 1000) (ln : n ≤ 1000) (hq : cirP K A B C P Q n 42) :
  Calls Tryz.prog 49 #[.pointer (some ⟨gs, 0, none⟩), .agg #[.int .i64 42, .int .i64 so, .int .i64 na, .int .i64 nb, .int .i64 nc, .int .i64 (P : Int), .int .i64 (Q : Int), .int .i64 W, .int .u64 lo, .int .u64 hi, .string nm], ua, ub, uc] w (WG w F gs g mo (cirF mo s K A B C P Q 42)) ∧ WOk s (cirF mo s K A B C P Q 42) n := by
 have hp := h.pos
 replace hq : 0 < A.length ∧ P ≤ 20000 ∧ n = A.length := hq
 exact ⟨circ_rotationUp (R := (A.drop (A.length - P % A.length) ++ A.take (A.length - P % A.length), s)) (fun wx => arity_42 wx) (fun wx => ofOne_42 wx gs) (fun wx hb => rotationUp_any (h.below hb) (hA.below hb) hq.1 (by omega) hq.2.1), ⟨Pg.refl _, by have hm := Nat.mod_lt P hq.1; show (A.drop (A.length - P % A.length) ++ A.take (A.length - P % A.length)).length = n; rw [List.length_append, List.length_drop, List.length_take]; omega, Oks.app oA.drop oA.take⟩⟩
theorem cir_43 (h : Gn w F gs g mo s) (hA : Wd w (FG F gs) ua A) (hB : Wd w (FG F gs) ub B) (hC : Wd w (FG F gs) uc C) (oA : Oks s A) (oB : Oks s B) (oC : Oks s C) (la : A.length ≤ 1000) (lb : B.length ≤ 1000) (ln : n ≤ 1000) (hq : cirP K A B C P Q n 43) :
  Calls Tryz.prog 49 #[.pointer (some ⟨gs, 0, none⟩), .agg #[.int .i64 43, .int .i64 so, .int .i64 na, .int .i64 nb, .int .i64 nc, .int .i64 (P : Int), .int .i64 (Q : Int), .int .i64 W, .int .u64 lo, .int .u64 hi, .string nm], ua, ub, uc] w (WG w F gs g mo (cirF mo s K A B C P Q 43)) ∧ WOk s (cirF mo s K A B C P Q 43) n := by
 have hp := h.pos
 replace hq : 0 < A.length ∧ P ≤ 20000 ∧ n = A.length := hq
 exact ⟨circ_rotationDown (R := (A.drop (P % A.length) ++ A.take (P % A.length), s)) (fun wx => arity_43 wx) (fun wx => ofOne_43 wx gs) (fun wx hb => rotationDown_any (h.below hb) (hA.below hb) hq.1 (by omega) hq.2.1), ⟨Pg.refl _, by have hm := Nat.mod_lt P hq.1; show (A.drop (P % A.length) ++ A.take (P % A.length)).length = n; rw [List.length_append, List.length_drop, List.length_take]; omega, Oks.app oA.drop oA.take⟩⟩
theorem cir_44 (h : Gn w F gs g mo s) (hA : Wd w (FG F gs) ua A) (hB : Wd w (FG F gs) ub B) (hC : Wd w (FG F gs) uc C) (oA : Oks s A) (oB : Oks s B) (oC : Oks s C) (la : A.length ≤ 1000) (lb : B.length ≤ 1000) (ln : n ≤ 1000) (hq : cirP K A B C P Q n 44) :
  Calls Tryz.prog 49 #[.pointer (some ⟨gs, 0, none⟩), .agg #[.int .i64 44, .int .i64 so, .int .i64 na, .int .i64 nb, .int .i64 nc, .int .i64 (P : Int), .int .i64 (Q : Int), .int .i64 W, .int .u64 lo, .int .u64 hi, .string nm], ua, ub, uc] w (WG w F gs g mo (cirF mo s K A B C P Q 44)) ∧ WOk s (cirF mo s K A B C P Q 44) n := by
 have hp := h.pos
 replace hq : P ≤ 20000 ∧ n = P * A.length := hq
 exact ⟨circ_repetition (R := (repW A P, s)) (fun wx => arity_44 wx) (fun wx => ofOne_44 wx gs) (fun wx hb => repetition_any (h.below hb) (hA.below hb) (by omega) (by omega)), ⟨Pg.refl _, by show (repW A P).length = n; rw [repW_len]; exact hq.2.symm, Oks.repW oA P⟩⟩
theorem cir_any (h : Gn w F gs g mo s) (hA : Wd w (FG F gs) ua A) (hB : Wd w (FG F gs) ub B) (hC : Wd w (FG F gs) uc C) (oA : Oks s A) (oB : Oks s B) (oC : Oks s C) (la : A.length ≤ 1000) (lb : B.length ≤ 1000) (ln : n ≤ 1000) {k : Nat} (hk : k ≤ 44) (hq : cirP K A B C P Q n k) (hK : k = 1 → (∀ wx, Below w.heap.size w wx → Calls Tryz.prog 64 #[.agg #[.int .i64 W, .int .u64 lo, .int .u64 hi]] wx fun ev w' => ∃ u', ev = .returned u' ∧ Wd w' (FG F gs) u' K ∧ Below wx.heap.size wx w') ∧ Oks s K) :
  Calls Tryz.prog 49 #[.pointer (some ⟨gs, 0, none⟩), .agg #[.int .i64 (k : Int), .int .i64 so, .int .i64 na, .int .i64 nb, .int .i64 nc, .int .i64 (P : Int), .int .i64 (Q : Int), .int .i64 W, .int .u64 lo, .int .u64 hi, .string nm], ua, ub, uc] w (WG w F gs g mo (cirF mo s K A B C P Q k)) ∧ WOk s (cirF mo s K A B C P Q k) n := by
 match k, hk, hq, hK with
 | 0, _, hq, _ => exact False.elim hq
 | 1, _, hq, hK => exact cir_1 h hA hB hC oA oB oC la lb ln hq (hK rfl).1 (hK rfl).2
 | 2, _, hq, _ => exact False.elim hq
 | 3, _, hq, _ => exact cir_3 h hA hB hC oA oB oC la lb ln hq
 | 4, _, hq, _ => exact cir_4 h hA hB hC oA oB oC la lb ln hq
 | 5, _, hq, _ => exact cir_5 h hA hB hC oA oB oC la lb ln hq
 | 6, _, hq, _ => exact cir_6 h hA hB hC oA oB oC la lb ln hq
 | 7, _, hq, _ => exact cir_7 h hA hB hC oA oB oC la lb ln hq
 | 8, _, hq, _ => exact cir_8 h hA hB hC oA oB oC la lb ln hq
 | 9, _, hq, _ => exact cir_9 h hA hB hC oA oB oC la lb ln hq
 | 10, _, hq, _ => exact cir_10 h hA hB hC oA oB oC la lb ln hq
 | 11, _, hq, _ => exact cir_11 h hA hB hC oA oB oC la lb ln hq
 | 12, _, hq, _ => exact cir_12 h hA hB hC oA oB oC la lb ln hq
 | 13, _, hq, _ => exact cir_13 h hA hB hC oA oB oC la lb ln hq
 | 14, _, hq, _ => exact cir_14 h hA hB hC oA oB oC la lb ln hq
 | 15, _, hq, _ => exact cir_15 h hA hB hC oA oB oC la lb ln hq
 | 16, _, hq, _ => exact cir_16 h hA hB hC oA oB oC la lb ln hq
 | 17, _, hq, _ => exact cir_17 h hA hB hC oA oB oC la lb ln hq
 | 18, _, hq, _ => exact cir_18 h hA hB hC oA oB oC la lb ln hq
 | 19, _, hq, _ => exact cir_19 h hA hB hC oA oB oC la lb ln hq
 | 20, _, hq, _ => exact cir_20 h hA hB hC oA oB oC la lb ln hq
 | 21, _, hq, _ => exact cir_21 h hA hB hC oA oB oC la lb ln hq
 | 22, _, hq, _ => exact cir_22 h hA hB hC oA oB oC la lb ln hq
 | 23, _, hq, _ => exact cir_23 h hA hB hC oA oB oC la lb ln hq
 | 24, _, hq, _ => exact cir_24 h hA hB hC oA oB oC la lb ln hq
 | 25, _, hq, _ => exact cir_25 h hA hB hC oA oB oC la lb ln hq
 | 26, _, hq, _ => exact cir_26 h hA hB hC oA oB oC la lb ln hq
 | 27, _, hq, _ => exact cir_27 h hA hB hC oA oB oC la lb ln hq
 | 28, _, hq, _ => exact cir_28 h hA hB hC oA oB oC la lb ln hq
 | 29, _, hq, _ => exact cir_29 h hA hB hC oA oB oC la lb ln hq
 | 30, _, hq, _ => exact cir_30 h hA hB hC oA oB oC la lb ln hq
 | 31, _, hq, _ => exact cir_31 h hA hB hC oA oB oC la lb ln hq
 | 32, _, hq, _ => exact cir_32 h hA hB hC oA oB oC la lb ln hq
 | 33, _, hq, _ => exact cir_33 h hA hB hC oA oB oC la lb ln hq
 | 34, _, hq, _ => exact cir_34 h hA hB hC oA oB oC la lb ln hq
 | 35, _, hq, _ => exact cir_35 h hA hB hC oA oB oC la lb ln hq
 | 36, _, hq, _ => exact cir_36 h hA hB hC oA oB oC la lb ln hq
 | 37, _, hq, _ => exact cir_37 h hA hB hC oA oB oC la lb ln hq
 | 38, _, hq, _ => exact cir_38 h hA hB hC oA oB oC la lb ln hq
 | 39, _, hq, _ => exact cir_39 h hA hB hC oA oB oC la lb ln hq
 | 40, _, hq, _ => exact cir_40 h hA hB hC oA oB oC la lb ln hq
 | 41, _, hq, _ => exact cir_41 h hA hB hC oA oB oC la lb ln hq
 | 42, _, hq, _ => exact cir_42 h hA hB hC oA oB oC la lb ln hq
 | 43, _, hq, _ => exact cir_43 h hA hB hC oA oB oC la lb ln hq
 | 44, _, hq, _ => exact cir_44 h hA hB hC oA oB oC la lb ln hq
 | k + 45, hk, _, _ => exact absurd hk (by omega)
end
end Go.Proofs.YtcahhahbcijkiaaGreat.Ag
