/- The counts' law: its world, its operations, its closure. -/
import Derived.Test.YtohfjpahdoodgaaGreatDoorMg37
import Derived.Test.YtohfjpahdoodgaaGreatDoorDG3
namespace Go.Proofs.YtohfjpahdoodgaaGreatDoor
open Go.RowKit
set_option linter.unusedSimpArgs false
set_option linter.unusedVariables false

/-- The law's world: no number is pinned more than c times, at most 64 d nodes. -/
structure CW (W0 : Wx) (w : World) (wb : Nat) (lv : Value) (g n : Nat) (H : List HT) (c d : Nat) (S : St) : Prop where
  ex : ∃ F pn, Hf W0 w F wb lv g n 16384 S pn H ∧ ∀ f, pn f ≤ (c : Int)
  cn : cntF S.ns ≤ 64 * d
section
variable {W0 : Wx} {w w' : World} {wb g n c d bw : Nat} {lv : Value} {H : List HT} {S : St}
theorem CW.below (h : CW W0 w wb lv g n H c d S) (hb : Below w.heap.size w w') : CW W0 w' wb lv g n H c d S := by
  obtain ⟨F, pn, h1, h2⟩ := h.ex
  exact ⟨⟨F, pn, h1.below hb, h2⟩, h.cn⟩
theorem CW.good (h : CW W0 w wb lv g n H c d S) : Good n S.ns S.sp := by
  obtain ⟨F, pn, h1, -⟩ := h.ex
  exact h1.rm.good
theorem CW.bel (h : CW W0 w wb lv g n H c d S) : Below W0.w.heap.size W0.w w := by
  obtain ⟨F, pn, h1, -⟩ := h.ex
  exact h1.bel
theorem CW.cells (h : CW W0 w wb lv g n H c d S) : w.cell? ⟨wb, 0, none⟩ = some (.pointer (some ⟨g, 0, none⟩)) ∧ w.cell? ⟨wb, 1, none⟩ = some (.int .i64 (n : Int)) ∧ wb < w.heap.size := by
  obtain ⟨F, pn, h1, -⟩ := h.ex
  obtain ⟨q0, q1, -, -, q4, -⟩ := h1.cells
  exact ⟨q0, q1, q4⟩
theorem CW.wbk (h : CW W0 w wb lv g n H c d S) (hx : W0.X bw = some (#[.pointer (some ⟨wb, 0, none⟩)], 24)) : w.cell? ⟨bw, 0, none⟩ = some (.pointer (some ⟨wb, 0, none⟩)) ∧ bw < w.heap.size := by
  obtain ⟨F, pn, h1, -⟩ := h.ex
  exact ⟨cell_of (h1.xb bw _ hx).2.1 0 rfl, blk_lt (h1.xb bw _ hx).2.1⟩
def CR (W0 : Wx) (wb : Nat) (lv : Value) (g n : Nat) (H : List HT) (c d : Nat) (S : St) (V : (Int → Bool) → Bool) (e : Ending) (w' : World) : Prop :=
  ∃ f S', e = .returned (.tuple #[.int .i64 f, .int .i64 0]) ∧ CW W0 w' wb lv g n H c (d + 1) S' ∧ S.ns <+: S'.ns ∧ Fv n S' f V
theorem CW.op {F : Nat → Prop} {pn : Int → Int} {V V' : (Int → Bool) → Bool} {e : Ending} (h : CW W0 w wb lv g n H c d S) (h1 : Hf W0 w F wb lv g n 16384 S pn H) (h2 : ∀ f, pn f ≤ (c : Int)) (hn : n ≤ 6) (hV : ∀ x, V x = V' x) (ho : OpG w F g n 16384 S pn (2 ^ n) V e w') : CR W0 wb lv g n H c d S V' e w' := by
  obtain ⟨f, S', F', rfl, hr, hch, hg, hal, hv⟩ := ho
  have hp : 2 ^ n ≤ 64 := Nat.le_trans (Nat.pow_le_pow_right (by decide) hn) (by decide)
  exact ⟨f, S', rfl, ⟨⟨F', pn, h1.ch hch hr, h2⟩, by have := hg.cnt; have := h.cn; omega⟩, hg.pre, hal, fun x => (hv x).trans (hV x)⟩
theorem cand_any (h : CW W0 w wb lv g n H c d S) (hd : d ≤ 200) (hn : n ≤ 6) {x y : Int} {X Y : (Int → Bool) → Bool} (hx : Fv n S x X) (hy : Fv n S y Y) :
    Calls Tryz.prog 8 #[.pointer (some ⟨g, 0, none⟩), .int .i64 x, .int .i64 y] w (CR W0 wb lv g n H c d S (fun a => X a && Y a)) := by
  obtain ⟨F, pn, h1, h2⟩ := h.ex
  have hp : 2 ^ n ≤ 64 := Nat.le_trans (Nat.pow_le_pow_right (by decide) hn) (by decide)
  exact (and_room h1.rm x y hx.al hy.al (by have := h.cn; omega)).mono fun e w' ho => h.op h1 h2 hn (fun z => by simp only [hx.vl z, hy.vl z]) ho
theorem cor_any (h : CW W0 w wb lv g n H c d S) (hd : d ≤ 200) (hn : n ≤ 6) {x y : Int} {X Y : (Int → Bool) → Bool} (hx : Fv n S x X) (hy : Fv n S y Y) :
    Calls Tryz.prog 10 #[.pointer (some ⟨g, 0, none⟩), .int .i64 x, .int .i64 y] w (CR W0 wb lv g n H c d S (fun a => X a || Y a)) := by
  obtain ⟨F, pn, h1, h2⟩ := h.ex
  have hp : 2 ^ n ≤ 64 := Nat.le_trans (Nat.pow_le_pow_right (by decide) hn) (by decide)
  exact (or_room h1.rm x y hx.al hy.al (by have := h.cn; omega)).mono fun e w' ho => h.op h1 h2 hn (fun z => by simp only [hx.vl z, hy.vl z]) ho
theorem cnot_any (h : CW W0 w wb lv g n H c d S) (hd : d ≤ 200) (hn : n ≤ 6) {x : Int} {X : (Int → Bool) → Bool} (hx : Fv n S x X) :
    Calls Tryz.prog 11 #[.pointer (some ⟨g, 0, none⟩), .int .i64 x] w (CR W0 wb lv g n H c d S (fun a => !X a)) := by
  obtain ⟨F, pn, h1, h2⟩ := h.ex
  have hp : 2 ^ n ≤ 64 := Nat.le_trans (Nat.pow_le_pow_right (by decide) hn) (by decide)
  exact (not_room h1.rm x hx.al (by have := h.cn; omega)).mono fun e w' ho => h.op h1 h2 hn (fun z => by simp only [hx.vl z]) ho
set_option maxRecDepth 20000 in
set_option maxHeartbeats 1600000 in
theorem cget_any (h : CW W0 w wb lv g n H c d S) (hc : c ≤ 1000) {f : Int} (hf : alive S.ns f) :
    Calls Tryz.prog 9 #[.pointer (some ⟨wb, 0, none⟩), .int .i64 f, .int .i64 0] w fun e w' => e = .returned (.int .i64 f) ∧ CW W0 w' wb lv g n H (c + 1) d S := by
  obtain ⟨F, pn, h1, h4⟩ := h.ex
  have hp := pin_any h1.rm.gr f (by have := h4 f; omega)
  rw [if_pos hf] at hp
  have HP : Hid _ := hp
  have m0 := h1.cells.1
  have ml := h1.cells.2.2.2.2.1
  have HH : Hid _ := h
  have H1 : Hid _ := h1
  have H4 : Hid _ := h4
  have HF : Hid _ := hf
  clear hp h h1 h4 hf
  go_enter Tryz.func9, Tryz.ntmps9
  go_wp2_with fail
  refine Calls.mono HP.out ?_
  rintro e w1 ⟨rfl, F', hg, hch⟩
  go_wp2_with fail
  go_ret
  refine ⟨rfl, ⟨⟨F', _, H1.out.ch hch ⟨hg, H1.out.rm.sp, ?_⟩, fun k => ?_⟩, HH.out.cn⟩⟩
  · obtain ⟨P, p1, p2⟩ := H1.out.rm.ps
    split
    · next q =>
      refine ⟨f :: P, fun k => ?_, fun k hk => ?_⟩
      · unfold pinA
        rw [List.mem_cons, p1]
        by_cases e : k = f
        · subst e
          simp only [true_or, if_true, true_iff]
          have := H1.out.rm.gr.pnz k
          omega
        · simp [e]
      · rcases List.mem_cons.1 hk with rfl | q2
        · exact HF.out
        · exact p2 _ q2
    · exact ⟨P, p1, p2⟩
  · have := H4.out k
    have := H4.out f
    split
    · unfold pinA
      split <;> omega
    · omega
set_option maxRecDepth 20000 in
set_option maxHeartbeats 1600000 in
theorem field_lo (x y z : Value) (w : World) : (Instr.field 47 (.agg #[x, y, z]) 1).run Tryz.prog w = .ok y w := by kernel_rfl
set_option maxRecDepth 20000 in
set_option maxHeartbeats 1600000 in
theorem cnt_cl (h : CW W0 w wb lv g n H c d S) (hx : W0.X bw = some (#[.pointer (some ⟨wb, 0, none⟩)], 24)) (hn : n ≤ 6) {f : Int} (ha : alive S.ns f) :
    Calls Tryz.prog 12 #[.int .i64 f, .pointer (some ⟨bw, 0, none⟩)] w fun e w' => e = .returned (.int .u64 (cv n S.ns f : Nat)) ∧ Below w.heap.size w w' := by
  obtain ⟨m0, -, lw⟩ := h.cells
  obtain ⟨cb, lb⟩ := h.wbk hx
  obtain ⟨q, hq⟩ : ∃ q, q = cv n S.ns f := ⟨_, rfl⟩
  have hp : 2 ^ n ≤ 64 := Nat.le_trans (Nat.pow_le_pow_right (by decide) hn) (by decide)
  have hq65 : q < 65 := by have := cv_bd h.good ha; omega
  have HC : Hid (Calls Tryz.prog 13 #[.pointer (some ⟨g, 0, none⟩), .int .i64 f] w fun e w' => e = .returned (.tuple #[.string ⟨(dgs q).toArray⟩, .int .i64 0]) ∧ Below w.heap.size w w') := by
    obtain ⟨F, pn, h1, -⟩ := h.ex
    exact count_any h1.rm.gr (by omega) f ha hq65 hq.symm
  have HN : Hid (∀ wx, Calls Tryz.prog 14 #[.string ⟨(dgs q).toArray⟩] wx fun e w' => e = .returned (.agg #[.int .i64 64, .int .u64 (q : Int), .int .u64 0]) ∧ Below wx.heap.size wx w') := fun wx => number_any hq65 wx
  rw [← hq]
  obtain ⟨s, hs⟩ : ∃ s : ByteArray, s = ⟨(dgs q).toArray⟩ := ⟨_, rfl⟩
  have hsz : 0 < s.size := by rw [hs]; exact (dgs_len q).1
  rw [← hs] at HC HN
  have hsz0 : ((s.size : Int) == 0) = false := beq_eq_false_iff_ne.2 (by omega)
  have hsz1 : ¬ s.size = 0 := by omega
  clear hq hq65 hs h hx ha
  go_enter Tryz.func12, Tryz.ntmps12
  go_wp2_with fail
  refine Calls.mono HC.out ?_
  rintro e w1 ⟨rfl, hb1⟩
  have HB1 : Hid _ := hb1
  clear hb1 m0 lw cb lb HC
  go_wp2_with fail
  refine Calls.mono (HN.out _) ?_
  rintro e w2 ⟨rfl, hb2⟩
  have hfd := field_lo (.int .i64 64) (.int .u64 (q : Int)) (.int .u64 0) w2
  go_wp2_with fail
  go_ret
  exact ⟨rfl, HB1.out.trans (hb2.mono HB1.out.size)⟩
end
end Go.Proofs.YtohfjpahdoodgaaGreatDoor
