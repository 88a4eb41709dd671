/- The chapter's examples hold. -/
import Derived.Test.YtikdjloedeinhaaDoorSX16
namespace Go.Proofs.YtikdjloedeinhaaDoor
open Go.RowKit
set_option linter.unusedSimpArgs false
set_option linter.unusedVariables false

def exA : ByteArray := ⟨#[40, 97, 32, 40, 98, 41, 32, 35, 120, 48, 102, 41, 32, 59, 32, 99]⟩
def exB : ByteArray := ⟨#[124, 120, 32, 121, 124, 40, 41]⟩
def xA : Sx := .mk ⟨#[]⟩ true [.mk ⟨#[97]⟩ false [], .mk ⟨#[]⟩ true [.mk ⟨#[98]⟩ false []], .mk ⟨#[35, 120, 48, 102]⟩ false []]
theorem parsA : pars exA = ([xA], 0, 0) := by rfl
theorem parsB : pars exB = ([.mk ⟨#[124, 120, 32, 121, 124]⟩ false [], .mk ⟨#[]⟩ true []], 0, 0) := by rfl
theorem parsC : pars ⟨#[40]⟩ = ([], 0, 20) := by rfl
theorem parsD : pars ⟨#[97, 93]⟩ = ([], 1, 22) := by rfl
theorem prtA : xA.prt = [40, 97, 32, 40, 98, 41, 32, 35, 120, 48, 102, 41] := by rfl
theorem sizA : xA.siz = 5 := by rfl
/-- A text without an error. -/
theorem parse_ok {t : ByteArray} {ks : List Sx} (h : pars t = (ks, 0, 0)) (w : World) : Calls Tryd.prog 10 #[.string t] w fun ev w' => ∃ v, ev = .returned (.tuple #[v, .nilIface]) ∧ (∃ D, Row w' D ks v ∧ ∀ b, D b → w.heap.size ≤ b ∧ b < w'.heap.size) ∧ Below w.heap.size w w' := by
  refine (Parse_any t w).mono ?_
  rintro ev w' ⟨v, er, rfl, hP, hb⟩
  rw [h] at hP
  rcases hP with ⟨-, -, rfl, D, h1, h2⟩ | ⟨h1, -⟩
  · exact ⟨v, rfl, ⟨D, h1, h2⟩, hb⟩
  · exact absurd rfl h1
/-- A text with one. -/
theorem parse_no {t : ByteArray} {a e : Nat} (h : pars t = ([], a, e)) (he : ¬ e = 0) (w : World) : Calls Tryd.prog 10 #[.string t] w fun ev w' => ∃ b, ev = .returned (.tuple #[.slice none 0 0, .iface 62 (.pointer (some ⟨b, 0, none⟩))]) ∧ w'.heap[b]? = some (.cells #[.int .i64 (a : Int), .int .i64 (e : Int)] 66 (0, 0)) ∧ Below w.heap.size w w' := by
  refine (Parse_any t w).mono ?_
  rintro ev w' ⟨v, er, rfl, hP, hb⟩
  rw [h] at hP
  rcases hP with ⟨h1, -⟩ | ⟨-, -, -, rfl, b, rfl, h2, -⟩
  · exact absurd h1 he
  · exact ⟨b, rfl, h2, hb⟩
theorem row_more {w w' : World} {D : Nat → Prop} {ks : List Sx} {v : Value} (h : Row w D ks v) (hD : ∀ b, D b → b < w.heap.size) (hb : Below w.heap.size w w') : Row w' D ks v := row_low h hD hb
theorem str_ne {s t : ByteArray} (h : s = t) : (s.toList != t.toList) = false := by rw [h]; simp
theorem wordY (w : World) : Calls Tryd.prog 19 #[.string ⟨#[97, 45, 98, 63]⟩] w fun e w' => e = .returned (.bool true) ∧ Below w.heap.size w w' := Word_any _ w (by decide)
theorem wordN (w : World) : Calls Tryd.prog 19 #[.string ⟨#[97, 32, 98]⟩] w fun e w' => e = .returned (.bool false) ∧ Below w.heap.size w w' := Word_any _ w (by decide)
theorem wordE (w : World) : Calls Tryd.prog 19 #[.string ⟨#[]⟩] w fun e w' => e = .returned (.bool false) ∧ Below w.heap.size w w' := Word_any _ w (by decide)

set_option maxRecDepth 20000 in
set_option maxHeartbeats 12800000 in
theorem known_any {w : World} (hg : Gl w) : Calls Tryd.prog 9 #[] w fun e w' => e = .returned (.bool true) ∧ Below w.heap.size w w' := by
  have HGL : Hid (Gl w) := hg
  clear hg
  go_enter Tryd.func9, Tryd.ntmps9
  go_wp2_with fail
  refine Calls.mono (parse_ok parsA _) ?_
  rintro e w1 ⟨v1, rfl, ⟨D1, hR1, hD1⟩, hb1⟩
  obtain ⟨a1, c1, rfl, hget1⟩ := row_get hR1
  obtain ⟨g1, o1, u1, rfl, hDg1, hgl1, x0, x1, x2, hK1⟩ := hget1 0 xA rfl
  obtain ⟨a2, c2, rfl, -⟩ := row_get hK1
  have HX : Hid (w1.cell? ⟨g1, o1, none⟩ = some (.string ⟨#[]⟩) ∧ w1.cell? ⟨g1, o1 + 1, none⟩ = some (.bool true) ∧ w1.cell? ⟨g1, o1 + 2, none⟩ = some (.slice a2 3 c2) ∧ g1 < w1.heap.size ∧ Row w1 D1 xA.ks (.slice a2 3 c2) ∧ ∀ b, D1 b → b < w1.heap.size) := ⟨x0, x1, x2, hgl1, hK1, fun b hb => (hD1 b hb).2⟩
  have HB1 : Hid _ := hb1
  clear hR1 hD1 hb1 hget1 hDg1 hgl1 x0 x1 x2 hK1
  go_wp2_with fail
  refine Calls.mono (parse_no parsC (by decide) _) ?_
  rintro e w2 ⟨b2, rfl, he2, hb2⟩
  have HE2 : Hid _ := he2
  have HB2 : Hid _ := hb2
  clear he2 hb2
  go_wp2_with fail
  refine Calls.mono (parse_no parsD (by decide) _) ?_
  rintro e w3 ⟨b3, rfl, he3, hb3⟩
  have HE3 : Hid _ := he3
  have HB3 : Hid _ := hb3
  clear he3 hb3
  go_wp2_with fail
  refine Calls.mono (parse_ok parsB _) ?_
  rintro e w4 ⟨v4, rfl, ⟨D4, hR4, hD4⟩, hb4⟩
  obtain ⟨a4, c4, rfl, hget4⟩ := row_get hR4
  obtain ⟨g4, o4, u4, rfl, hDg4, hgl4, y0, y1, y2, hK4⟩ := hget4 0 _ rfl
  obtain ⟨g5, o5, u5, hge, hDg5, hgl5, z0, z1, z2, hK5⟩ := hget4 1 _ rfl
  obtain ⟨rfl, rfl⟩ : g4 = g5 ∧ o4 = o5 := by injection hge with e; injection e; exact ⟨‹_›, ‹_›⟩
  have s12 := HB2.out.size
  have s23 := HB3.out.size
  have s34 := hb4.size
  have hb14 : Below w1.heap.size w1 w4 := (HB2.out.trans ((HB3.out.mono s12).trans (hb4.mono (by omega))))
  have hx : ∀ i, w4.cell? ⟨g1, i, none⟩ = w1.cell? ⟨g1, i, none⟩ := fun i => hb14.cell (p := ⟨g1, i, none⟩) HX.out.2.2.2.1
  have p0 : w4.cell? ⟨g1, o1, none⟩ = some (.string ⟨#[]⟩) := (hx _).trans HX.out.1
  have p1 : w4.cell? ⟨g1, o1 + 1, none⟩ = some (.bool true) := (hx _).trans HX.out.2.1
  have p2 : w4.cell? ⟨g1, o1 + 2, none⟩ = some (.slice a2 3 c2) := (hx _).trans HX.out.2.2.1
  have hRA : Row w4 D1 xA.ks (.slice a2 3 c2) := row_more HX.out.2.2.2.2.1 HX.out.2.2.2.2.2 hb14
  have hDA : ∀ b, D1 b → b < w4.heap.size := fun b hb => by have := HX.out.2.2.2.2.2 b hb; omega
  have HPR : Hid (Calls Tryd.prog 15 #[.agg #[.string ⟨#[]⟩, .bool true, .slice a2 3 c2]] w4 fun e w' => e = .returned (.string ⟨#[40, 97, 32, 40, 98, 41, 32, 35, 120, 48, 102, 41]⟩) ∧ Below w4.heap.size w4 w') := by
    have := Print_any hRA hDA (by rw [prtA]; decide)
    rw [prtA] at this; exact this
  have HSZ : Hid (∀ wx, Below w4.heap.size w4 wx → Calls Tryd.prog 17 #[.agg #[.string ⟨#[]⟩, .bool true, .slice a2 3 c2]] wx fun e w' => e = .returned (.int .i64 5) ∧ Below wx.heap.size wx w') := fun wx hb => by
    have := Size_any xA (row_more hRA hDA hb) (fun b h => by have := hDA b h; have := hb.size; omega) (by rw [sizA]; decide)
    rw [sizA] at this; exact this
  have q0 : w4.cell? ⟨g4, o4, none⟩ = some (.string ⟨#[124, 120, 32, 121, 124]⟩) := y0
  have q1 : w4.cell? ⟨g4, o4 + 4, none⟩ = some (.bool true) := z1
  have H4 : Hid (g4 < w4.heap.size ∧ g1 < w4.heap.size ∧ Below w.heap.size w w4) := ⟨hgl4, by have := HX.out.2.2.2.1; omega, HB1.out.trans (hb14.mono HB1.out.size)⟩
  have HT2 : Hid (∀ wx, Below w4.heap.size w4 wx → Calls Tryd.prog 12 #[.iface 62 (.pointer (some ⟨b2, 0, none⟩))] wx fun ev w' => ev = .returned (.tuple #[.int .i64 0, .int .i64 20]) ∧ Below wx.heap.size wx w') := fun wx hb => by
    have hlt : b2 < w2.heap.size := (Array.getElem?_eq_some_iff.1 HE2.out).1
    exact told_err ((HGL.out.below H4.out.2.2).below hb) ((hb.block b2 (by omega)).trans ((hb4.block b2 (by omega)).trans ((HB3.out.block b2 hlt).trans HE2.out)))
  have HT3 : Hid (∀ wx, Below w4.heap.size w4 wx → Calls Tryd.prog 12 #[.iface 62 (.pointer (some ⟨b3, 0, none⟩))] wx fun ev w' => ev = .returned (.tuple #[.int .i64 1, .int .i64 22]) ∧ Below wx.heap.size wx w') := fun wx hb => by
    have hlt : b3 < w3.heap.size := (Array.getElem?_eq_some_iff.1 HE3.out).1
    exact told_err ((HGL.out.below H4.out.2.2).below hb) ((hb.block b3 (by omega)).trans ((hb4.block b3 hlt).trans HE3.out))
  clear hR4 hD4 hb4 hget4 hDg4 hDg5 hgl4 hgl5 y0 y1 y2 z0 z1 z2 hK4 hK5 hge hb14 hx hRA hDA s12 s23 s34 HE2 HE3 HB2 HB3 HX HB1
  go_wp2_with fail
  refine Calls.mono HPR.out ?_
  rintro e w5 ⟨rfl, hb5⟩
  have r0 : w5.cell? ⟨g1, o1, none⟩ = some (.string ⟨#[]⟩) := by rw [hb5.cell (p := ⟨g1, o1, none⟩) H4.out.2.1]; exact p0
  have r1 : w5.cell? ⟨g1, o1 + 1, none⟩ = some (.bool true) := by rw [hb5.cell (p := ⟨g1, o1 + 1, none⟩) H4.out.2.1]; exact p1
  have r2 : w5.cell? ⟨g1, o1 + 2, none⟩ = some (.slice a2 3 c2) := by rw [hb5.cell (p := ⟨g1, o1 + 2, none⟩) H4.out.2.1]; exact p2
  have HB5 : Hid _ := hb5
  clear hb5 p0 p1 p2
  go_wp2_with fail
  refine Calls.mono (HSZ.out _ HB5.out) ?_
  rintro e w6 ⟨rfl, hb6⟩
  have HB6 : Hid (Below w4.heap.size w4 w6) := HB5.out.trans (hb6.mono HB5.out.size)
  have t0 : w6.cell? ⟨g4, o4, none⟩ = some (.string ⟨#[124, 120, 32, 121, 124]⟩) := by rw [HB6.out.cell (p := ⟨g4, o4, none⟩) H4.out.1]; exact q0
  have t1 : w6.cell? ⟨g4, o4 + 4, none⟩ = some (.bool true) := by rw [HB6.out.cell (p := ⟨g4, o4 + 4, none⟩) H4.out.1]; exact q1
  clear hb6 r0 r1 r2 q0 q1
  go_wp2_with fail
  refine Calls.mono (HT2.out _ HB6.out) ?_
  rintro e w7 ⟨rfl, hb7⟩
  have HB7 : Hid (Below w4.heap.size w4 w7) := HB6.out.trans (hb7.mono HB6.out.size)
  clear hb7 t0 t1
  go_wp2_with fail
  refine Calls.mono (HT3.out _ HB7.out) ?_
  rintro e w8 ⟨rfl, hb8⟩
  have HB8 : Hid (Below w4.heap.size w4 w8) := HB7.out.trans (hb8.mono HB7.out.size)
  clear hb8
  go_wp2_with fail
  refine Calls.mono (wordY _) ?_
  rintro e w9 ⟨rfl, hb9⟩
  have HB9 : Hid (Below w4.heap.size w4 w9) := HB8.out.trans (hb9.mono HB8.out.size)
  clear hb9
  go_wp2_with fail
  refine Calls.mono (wordN _) ?_
  rintro e wa ⟨rfl, hba⟩
  have HBA : Hid (Below w4.heap.size w4 wa) := HB9.out.trans (hba.mono HB9.out.size)
  clear hba
  go_wp2_with fail
  refine Calls.mono (wordE _) ?_
  rintro e wb ⟨rfl, hbb⟩
  have HBB : Hid (Below w4.heap.size w4 wb) := HBA.out.trans (hbb.mono HBA.out.size)
  clear hbb
  go_wp2_with fail
  go_ret
  exact ⟨rfl, H4.out.2.2.trans (HBB.out.mono H4.out.2.2.size)⟩
end Go.Proofs.YtikdjloedeinhaaDoor
