/- The laws that ask more of the world: what is known of numbers, and an operation whose answer is pinned. -/
import Derived.Test.YtohfjpahdoodgaaDoorDE48
namespace Go.Proofs.YtohfjpahdoodgaaDoor
open Go.RowKit
set_option linter.unusedSimpArgs false
set_option linter.unusedVariables false

/-- One block more lies beside. -/
theorem Hf.add {w0 : Wx} {w : World} {F : Nat → Prop} {wb g n most k : Nat} {lv : Value} {S : St} {pn : Int → Int} {H : List HT} {p : Array Value × TypeId} (h : Hf w0 w F wb lv g n most S pn H) (ht : p.2 ≠ 36 ∧ p.2 ≠ 29) (hk : w.heap[k]? = some (.cells p.1 p.2 (0, 0))) (hf : ¬ F k) : Hf (w0.add k p) w F wb lv g n most S pn H :=
  ⟨h.bel, h.rm, h.low, h.wf, h.wl, h.wc, h.hl, h.few, fun j q e => by
    by_cases hj : j = k
    · rw [show (w0.add k p).X j = some p from if_pos hj] at e
      cases e
      exact ⟨ht, hj ▸ hk, hj ▸ hf⟩
    · exact h.xb j q ((if_neg hj).symm.trans e)⟩
/-- A number that is a function's diagram. -/
structure Fv (n : Nat) (S : St) (f : Int) (V : (Int → Bool) → Bool) : Prop where
  al : alive S.ns f
  vl : ∀ x, val n S.ns x f = V x
section
variable {n : Nat} {S S' : St} {f h : Int} {V V' : (Int → Bool) → Bool}
theorem Fv.grow (k : Fv n S f V) (g : Good n S.ns S.sp) (hp : S.ns <+: S'.ns) : Fv n S' f V := ⟨pre_alive hp k.al, fun x => (pre_val g hp x k.al).trans (k.vl x)⟩
theorem Fv.eq (k : Fv n S f V) (g : Good n S.ns S.sp) (k' : Fv n S h V') (e : ∀ x, V x = V' x) : f = h :=
  val_eq g k.al k'.al fun x => by rw [k.vl x, k'.vl x, e x]
theorem Fv.congr (k : Fv n S f V) (e : ∀ x, V x = V' x) : Fv n S f V' := ⟨k.al, fun x => (k.vl x).trans (e x)⟩
theorem Fv.of (ha : alive S.ns f) : Fv n S f (fun x => val n S.ns x f) := ⟨ha, fun _ => rfl⟩
theorem Fv.c0 (g : Good n S.ns S.sp) : Fv n S 0 (fun _ => false) := ⟨g.a0, fun x => (val_01 n S.ns x).1⟩
theorem Fv.c1 (g : Good n S.ns S.sp) : Fv n S 1 (fun _ => true) := ⟨g.a1, fun x => (val_01 n S.ns x).2⟩
end
/-- The world of a law, its variables w and m in blocks of their own; no number is pinned more than c times, and there are at most 64 d nodes. -/
structure LW (w0 : Wx) (w : World) (bm bw wb g n : Nat) (c d : Nat) (S : St) : Prop where
  ex : ∃ F lv pn H, Hf w0 w F wb lv g n 16384 S pn H ∧ ¬ F bm ∧ ¬ F bw ∧ ∀ f, pn f ≤ (c : Int)
  m : w.heap[bm]? = some (.cells #[.pointer (some ⟨g, 0, none⟩)] 26 (0, 0))
  w : w.heap[bw]? = some (.cells #[.pointer (some ⟨wb, 0, none⟩)] 24 (0, 0))
  cn : cntF S.ns ≤ 64 * d
section
variable {w0 : Wx} {w w' : World} {bm bw wb g n c d : Nat} {S S' : St}
theorem LW.below (h : LW w0 w bm bw wb g n c d S) (hb : Below w.heap.size w w') : LW w0 w' bm bw wb g n c d S := by
  obtain ⟨F, lv, pn, H, h1, h2, h3, h4⟩ := h.ex
  exact ⟨⟨F, lv, pn, H, h1.below hb, h2, h3, h4⟩, (hb.block _ (blk_lt h.m)).trans h.m, (hb.block _ (blk_lt h.w)).trans h.w, h.cn⟩
theorem LW.good (h : LW w0 w bm bw wb g n c d S) : Good n S.ns S.sp := by
  obtain ⟨F, lv, pn, H, h1, -⟩ := h.ex
  exact h1.rm.good
theorem LW.bel (h : LW w0 w bm bw wb g n c d S) : Below w0.w.heap.size w0.w w := by
  obtain ⟨F, lv, pn, H, h1, -⟩ := h.ex
  exact h1.bel
/-- What an operation leaves that isn't pinned yet. -/
theorem LW.op {F F' : Nat → Prop} {lv : Value} {pn : Int → Int} {H : List HT} (h : LW w0 w bm bw wb g n c d S) (hf : Hf w0 w F wb lv g n 16384 S pn H) (h2 : ¬ F bm) (h3 : ¬ F bw) (h4 : ∀ f, pn f ≤ (c : Int)) (hc : Ch w w' F F') (hr : Rm w' F' g n 16384 S' pn) (hg : Gw n S S' (2 ^ n)) (hn : n ≤ 6) : LW w0 w' bm bw wb g n c (d + 1) S' := by
  have hp : 2 ^ n ≤ 64 := Nat.le_trans (Nat.pow_le_pow_right (by decide) hn) (by decide)
  exact ⟨⟨F', lv, pn, H, hf.ch hc hr, hc.old (blk_lt h.m) h2, hc.old (blk_lt h.w) h3, h4⟩, (hc.block _ (blk_lt h.m) h2).trans h.m, (hc.block _ (blk_lt h.w) h3).trans h.w, by have := hg.cnt; have := h.cn; omega⟩
theorem Gr.pnz {F : Nat → Prop} {vars most : Nat} {pn : Int → Int} (h : Gr w F g vars most S pn) (f : Int) : 0 ≤ pn f := by
  obtain ⟨m, p, v, u, hx, -⟩ := h
  have := hx.pins.rg f
  omega
set_option maxRecDepth 20000 in
set_option maxHeartbeats 1600000 in
theorem get_any (h : LW w0 w bm bw wb g n c d S) (hc : c ≤ 1000) {f : Int} (hf : alive S.ns f) :
    Calls Tryd.prog 33 #[.pointer (some ⟨wb, 0, none⟩), .int .i64 f, .int .i64 0] w fun e w' => e = .returned (.int .i64 f) ∧ LW w0 w' bm bw wb g n (c + 1) d S := by
  obtain ⟨F, lv, pn, H, h1, h2, h3, h4⟩ := h.ex
  have hp := pin_any h1.rm.gr f (by have := h4 f; omega)
  rw [if_pos hf] at hp
  have HP : Hid _ := hp
  have m0 := h1.cells.1
  have ml := h1.cells.2.2.2.2.1
  have HH : Hid _ := h
  have H1 : Hid _ := h1
  have H2 : Hid _ := h2
  have H3 : Hid _ := h3
  have H4 : Hid _ := h4
  have HF : Hid _ := hf
  clear hp h h1 h2 h3 h4 hf
  go_enter Tryd.func33, Tryd.ntmps33
  go_wp2_with fail
  refine Calls.mono HP.out ?_
  rintro e w1 ⟨rfl, F', hg, hch⟩
  go_wp2_with fail
  go_ret
  refine ⟨rfl, ⟨⟨F', lv, _, H, H1.out.ch hch ⟨hg, H1.out.rm.sp, ?_⟩, hch.old (blk_lt HH.out.m) H2.out, hch.old (blk_lt HH.out.w) H3.out, fun k => ?_⟩, (hch.block _ (blk_lt HH.out.m) H2.out).trans HH.out.m, (hch.block _ (blk_lt HH.out.w) H3.out).trans HH.out.w, HH.out.cn⟩⟩
  · obtain ⟨P, p1, p2⟩ := H1.out.rm.ps
    split
    · next q =>
      refine ⟨f :: P, fun k => ?_, fun k hk => ?_⟩
      · unfold pinA
        rw [List.mem_cons, p1]
        by_cases e : k = f
        · subst e
          simp only [true_or, if_true, true_iff]
          have := H1.out.rm.gr.pnz k
          omega
        · simp [e]
      · rcases List.mem_cons.1 hk with rfl | q2
        · exact HF.out
        · exact p2 _ q2
    · exact ⟨P, p1, p2⟩
  · have := H4.out k
    have := H4.out f
    split
    · unfold pinA
      split <;> omega
    · omega
set_option maxRecDepth 20000 in
set_option maxHeartbeats 1600000 in
theorem and_cl (h : LW w0 w bm bw wb g n c d S) (hc : c ≤ 1000) (hd : d ≤ 200) (hn : n ≤ 6) {x : Int} {y : Int} {X : (Int → Bool) → Bool} {Y : (Int → Bool) → Bool} (hx : Fv n S x X) (hy : Fv n S y Y) :
    Calls Tryd.prog 31 #[.int .i64 x, .int .i64 y, .pointer (some ⟨bm, 0, none⟩), .pointer (some ⟨bw, 0, none⟩)] w fun e w' => ∃ f S', e = .returned (.int .i64 f) ∧ LW w0 w' bm bw wb g n (c + 1) (d + 1) S' ∧ S.ns <+: S'.ns ∧ Fv n S' f (fun a => X a && Y a) := by
  obtain ⟨F, lv, pn, H, h1, h2, h3, h4⟩ := h.ex
  have hp : 2 ^ n ≤ 64 := Nat.le_trans (Nat.pow_le_pow_right (by decide) hn) (by decide)
  have HO : Hid _ := and_room h1.rm x y hx.al hy.al (by have := h.cn; omega)
  have cm := cell_of h.m 0 rfl
  have lm := blk_lt h.m
  have HH : Hid _ := h
  have H1 : Hid _ := h1
  have H2 : Hid _ := h2
  have H3 : Hid _ := h3
  have H4 : Hid _ := h4
  clear h h1 h2 h3 h4 hp
  go_enter Tryd.func31, Tryd.ntmps31
  go_wp2_with fail
  refine Calls.mono HO.out ?_
  rintro e w1 ⟨f, S', F', rfl, hr, hch, hg, hal, hv⟩
  have HL : Hid (LW w0 w1 bm bw wb g n c (d + 1) S') := HH.out.op H1.out H2.out H3.out H4.out hch hr hg hn
  have HG : Hid (S.ns <+: S'.ns) := hg.pre
  have HV : Hid (Fv n S' f (fun a => X a && Y a)) := ⟨hal, fun z => by rw [hv z]; simp only [hx.vl z, hy.vl z]⟩
  have HGET : Hid _ := get_any HL.out hc hal
  have cw := cell_of HL.out.w 0 rfl
  have lw := blk_lt HL.out.w
  clear hr hch hg hal hv HO cm lm
  go_wp2_with fail
  refine Calls.mono HGET.out ?_
  rintro e w2 ⟨rfl, hl⟩
  go_wp2_with fail
  go_ret
  exact ⟨f, S', rfl, hl, HG.out, HV.out⟩
set_option maxRecDepth 20000 in
set_option maxHeartbeats 1600000 in
theorem or_cl (h : LW w0 w bm bw wb g n c d S) (hc : c ≤ 1000) (hd : d ≤ 200) (hn : n ≤ 6) {x : Int} {y : Int} {X : (Int → Bool) → Bool} {Y : (Int → Bool) → Bool} (hx : Fv n S x X) (hy : Fv n S y Y) :
    Calls Tryd.prog 34 #[.int .i64 x, .int .i64 y, .pointer (some ⟨bm, 0, none⟩), .pointer (some ⟨bw, 0, none⟩)] w fun e w' => ∃ f S', e = .returned (.int .i64 f) ∧ LW w0 w' bm bw wb g n (c + 1) (d + 1) S' ∧ S.ns <+: S'.ns ∧ Fv n S' f (fun a => X a || Y a) := by
  obtain ⟨F, lv, pn, H, h1, h2, h3, h4⟩ := h.ex
  have hp : 2 ^ n ≤ 64 := Nat.le_trans (Nat.pow_le_pow_right (by decide) hn) (by decide)
  have HO : Hid _ := or_room h1.rm x y hx.al hy.al (by have := h.cn; omega)
  have cm := cell_of h.m 0 rfl
  have lm := blk_lt h.m
  have HH : Hid _ := h
  have H1 : Hid _ := h1
  have H2 : Hid _ := h2
  have H3 : Hid _ := h3
  have H4 : Hid _ := h4
  clear h h1 h2 h3 h4 hp
  go_enter Tryd.func34, Tryd.ntmps34
  go_wp2_with fail
  refine Calls.mono HO.out ?_
  rintro e w1 ⟨f, S', F', rfl, hr, hch, hg, hal, hv⟩
  have HL : Hid (LW w0 w1 bm bw wb g n c (d + 1) S') := HH.out.op H1.out H2.out H3.out H4.out hch hr hg hn
  have HG : Hid (S.ns <+: S'.ns) := hg.pre
  have HV : Hid (Fv n S' f (fun a => X a || Y a)) := ⟨hal, fun z => by rw [hv z]; simp only [hx.vl z, hy.vl z]⟩
  have HGET : Hid _ := get_any HL.out hc hal
  have cw := cell_of HL.out.w 0 rfl
  have lw := blk_lt HL.out.w
  clear hr hch hg hal hv HO cm lm
  go_wp2_with fail
  refine Calls.mono HGET.out ?_
  rintro e w2 ⟨rfl, hl⟩
  go_wp2_with fail
  go_ret
  exact ⟨f, S', rfl, hl, HG.out, HV.out⟩
set_option maxRecDepth 20000 in
set_option maxHeartbeats 1600000 in
theorem not_cl (h : LW w0 w bm bw wb g n c d S) (hc : c ≤ 1000) (hd : d ≤ 200) (hn : n ≤ 6) {x : Int} {X : (Int → Bool) → Bool} (hx : Fv n S x X) :
    Calls Tryd.prog 36 #[.int .i64 x, .pointer (some ⟨bm, 0, none⟩), .pointer (some ⟨bw, 0, none⟩)] w fun e w' => ∃ f S', e = .returned (.int .i64 f) ∧ LW w0 w' bm bw wb g n (c + 1) (d + 1) S' ∧ S.ns <+: S'.ns ∧ Fv n S' f (fun a => !X a) := by
  obtain ⟨F, lv, pn, H, h1, h2, h3, h4⟩ := h.ex
  have hp : 2 ^ n ≤ 64 := Nat.le_trans (Nat.pow_le_pow_right (by decide) hn) (by decide)
  have HO : Hid _ := not_room h1.rm x hx.al (by have := h.cn; omega)
  have cm := cell_of h.m 0 rfl
  have lm := blk_lt h.m
  have HH : Hid _ := h
  have H1 : Hid _ := h1
  have H2 : Hid _ := h2
  have H3 : Hid _ := h3
  have H4 : Hid _ := h4
  clear h h1 h2 h3 h4 hp
  go_enter Tryd.func36, Tryd.ntmps36
  go_wp2_with fail
  refine Calls.mono HO.out ?_
  rintro e w1 ⟨f, S', F', rfl, hr, hch, hg, hal, hv⟩
  have HL : Hid (LW w0 w1 bm bw wb g n c (d + 1) S') := HH.out.op H1.out H2.out H3.out H4.out hch hr hg hn
  have HG : Hid (S.ns <+: S'.ns) := hg.pre
  have HV : Hid (Fv n S' f (fun a => !X a)) := ⟨hal, fun z => by rw [hv z]; simp only [hx.vl z]⟩
  have HGET : Hid _ := get_any HL.out hc hal
  have cw := cell_of HL.out.w 0 rfl
  have lw := blk_lt HL.out.w
  clear hr hch hg hal hv HO cm lm
  go_wp2_with fail
  refine Calls.mono HGET.out ?_
  rintro e w2 ⟨rfl, hl⟩
  go_wp2_with fail
  go_ret
  exact ⟨f, S', rfl, hl, HG.out, HV.out⟩
set_option maxRecDepth 20000 in
set_option maxHeartbeats 1600000 in
theorem xor_cl (h : LW w0 w bm bw wb g n c d S) (hc : c ≤ 1000) (hd : d ≤ 200) (hn : n ≤ 6) {x : Int} {y : Int} {X : (Int → Bool) → Bool} {Y : (Int → Bool) → Bool} (hx : Fv n S x X) (hy : Fv n S y Y) :
    Calls Tryd.prog 37 #[.int .i64 x, .int .i64 y, .pointer (some ⟨bm, 0, none⟩), .pointer (some ⟨bw, 0, none⟩)] w fun e w' => ∃ f S', e = .returned (.int .i64 f) ∧ LW w0 w' bm bw wb g n (c + 1) (d + 1) S' ∧ S.ns <+: S'.ns ∧ Fv n S' f (fun a => xor (X a) (Y a)) := by
  obtain ⟨F, lv, pn, H, h1, h2, h3, h4⟩ := h.ex
  have hp : 2 ^ n ≤ 64 := Nat.le_trans (Nat.pow_le_pow_right (by decide) hn) (by decide)
  have HO : Hid _ := xor_room h1.rm x y hx.al hy.al (by have := h.cn; omega)
  have cm := cell_of h.m 0 rfl
  have lm := blk_lt h.m
  have HH : Hid _ := h
  have H1 : Hid _ := h1
  have H2 : Hid _ := h2
  have H3 : Hid _ := h3
  have H4 : Hid _ := h4
  clear h h1 h2 h3 h4 hp
  go_enter Tryd.func37, Tryd.ntmps37
  go_wp2_with fail
  refine Calls.mono HO.out ?_
  rintro e w1 ⟨f, S', F', rfl, hr, hch, hg, hal, hv⟩
  have HL : Hid (LW w0 w1 bm bw wb g n c (d + 1) S') := HH.out.op H1.out H2.out H3.out H4.out hch hr hg hn
  have HG : Hid (S.ns <+: S'.ns) := hg.pre
  have HV : Hid (Fv n S' f (fun a => xor (X a) (Y a))) := ⟨hal, fun z => by rw [hv z]; simp only [hx.vl z, hy.vl z]⟩
  have HGET : Hid _ := get_any HL.out hc hal
  have cw := cell_of HL.out.w 0 rfl
  have lw := blk_lt HL.out.w
  clear hr hch hg hal hv HO cm lm
  go_wp2_with fail
  refine Calls.mono HGET.out ?_
  rintro e w2 ⟨rfl, hl⟩
  go_wp2_with fail
  go_ret
  exact ⟨f, S', rfl, hl, HG.out, HV.out⟩
set_option maxRecDepth 20000 in
set_option maxHeartbeats 1600000 in
theorem ite_cl (h : LW w0 w bm bw wb g n c d S) (hc : c ≤ 1000) (hd : d ≤ 200) (hn : n ≤ 6) {x : Int} {y : Int} {z : Int} {X : (Int → Bool) → Bool} {Y : (Int → Bool) → Bool} {Z : (Int → Bool) → Bool} (hx : Fv n S x X) (hy : Fv n S y Y) (hz : Fv n S z Z) :
    Calls Tryd.prog 39 #[.int .i64 x, .int .i64 y, .int .i64 z, .pointer (some ⟨bm, 0, none⟩), .pointer (some ⟨bw, 0, none⟩)] w fun e w' => ∃ f S', e = .returned (.int .i64 f) ∧ LW w0 w' bm bw wb g n (c + 1) (d + 1) S' ∧ S.ns <+: S'.ns ∧ Fv n S' f (fun a => if X a then Y a else Z a) := by
  obtain ⟨F, lv, pn, H, h1, h2, h3, h4⟩ := h.ex
  have hp : 2 ^ n ≤ 64 := Nat.le_trans (Nat.pow_le_pow_right (by decide) hn) (by decide)
  have HO : Hid _ := ite_room h1.rm x y z hx.al hy.al hz.al (by have := h.cn; omega)
  have cm := cell_of h.m 0 rfl
  have lm := blk_lt h.m
  have HH : Hid _ := h
  have H1 : Hid _ := h1
  have H2 : Hid _ := h2
  have H3 : Hid _ := h3
  have H4 : Hid _ := h4
  clear h h1 h2 h3 h4 hp
  go_enter Tryd.func39, Tryd.ntmps39
  go_wp2_with fail
  refine Calls.mono HO.out ?_
  rintro e w1 ⟨f, S', F', rfl, hr, hch, hg, hal, hv⟩
  have HL : Hid (LW w0 w1 bm bw wb g n c (d + 1) S') := HH.out.op H1.out H2.out H3.out H4.out hch hr hg hn
  have HG : Hid (S.ns <+: S'.ns) := hg.pre
  have HV : Hid (Fv n S' f (fun a => if X a then Y a else Z a)) := ⟨hal, fun z => by rw [hv z]; simp only [hx.vl z, hy.vl z, hz.vl z]⟩
  have HGET : Hid _ := get_any HL.out hc hal
  have cw := cell_of HL.out.w 0 rfl
  have lw := blk_lt HL.out.w
  clear hr hch hg hal hv HO cm lm
  go_wp2_with fail
  refine Calls.mono HGET.out ?_
  rintro e w2 ⟨rfl, hl⟩
  go_wp2_with fail
  go_ret
  exact ⟨f, S', rfl, hl, HG.out, HV.out⟩
end

/-- What a number is worth, told by those of three others. -/
inductive Ex
  | a | b | c | o | i
  | nt (x : Ex)
  | an (x y : Ex)
  | orr (x y : Ex)
  | xr (x y : Ex)
  | it (x y z : Ex)
def Ex.ev : Ex → Bool → Bool → Bool → Bool
  | .a, p, _, _ => p
  | .b, _, q, _ => q
  | .c, _, _, r => r
  | .o, _, _, _ => false
  | .i, _, _, _ => true
  | .nt x, p, q, r => !x.ev p q r
  | .an x y, p, q, r => x.ev p q r && y.ev p q r
  | .orr x y, p, q, r => x.ev p q r || y.ev p q r
  | .xr x y, p, q, r => xor (x.ev p q r) (y.ev p q r)
  | .it x y z, p, q, r => if x.ev p q r then y.ev p q r else z.ev p q r
/-- The law's world, and what is known of numbers. -/
structure KW (w0 : Wx) (w : World) (bm bw wb g n c : Nat) (S : St) (A B C : (Int → Bool) → Bool) (L : List (Int × Ex)) : Prop where
  lw : LW w0 w bm bw wb g n c c S
  k : ∀ p ∈ L, Fv n S p.1 (fun x => p.2.ev (A x) (B x) (C x))
section
variable {w0 : Wx} {w w' : World} {bm bw wb g n c : Nat} {S S' : St} {A B C : (Int → Bool) → Bool} {L : List (Int × Ex)}
theorem KW.more (h : KW w0 w bm bw wb g n c S A B C L) {f : Int} {e : Ex} (hl : LW w0 w' bm bw wb g n (c + 1) (c + 1) S') (hp : S.ns <+: S'.ns) (hv : Fv n S' f (fun x => e.ev (A x) (B x) (C x))) : KW w0 w' bm bw wb g n (c + 1) S' A B C ((f, e) :: L) :=
  ⟨hl, fun p hq => by
    rcases List.mem_cons.1 hq with rfl | q
    · exact hv
    · exact (h.k p q).grow h.lw.good hp⟩
theorem KW.eq (h : KW w0 w bm bw wb g n c S A B C L) {x y : Int} {e e' : Ex} (h1 : (x, e) ∈ L) (h2 : (y, e') ∈ L) (he : ∀ p q r, e.ev p q r = e'.ev p q r) : x = y :=
  (h.k _ h1).eq h.lw.good (h.k _ h2) fun _ => he _ _ _
end
end Go.Proofs.YtohfjpahdoodgaaDoor
