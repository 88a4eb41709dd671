/- Contracts: strings.Builder's writers and reader, at this program. -/
import Derived.Shelf.Strings.BuilderK
import Derived.Test.YtohfjpahdoodgaaGreatDoorProg
import Derived.WalkKit
import Derived.Handy
import Derived.Test.YtohfjpahdoodgaaGreatDoorDE19
import Derived.Test.YtohfjpahdoodgaaGreatDoorDDA
namespace Go.Proofs.YtohfjpahdoodgaaGreatDoor
open Go.RowKit Go.Shelf

def ren169 : Go.Shelf.Ren := ⟨fun | 169 => 46 | n => n, fun | 70 => 94 | 9 => 9 | 0 => 0 | 72 => 97 | 37 => 95 | 127 => 132 | 3 => 3 | 5 => 5 | n => n, fun | n => n⟩
theorem lays169 : Go.Proofs.Lays.n169 Tryz.prog ren169 := {
  mixed := by kernel_rfl
  f169 := Tryz.func46.trans (congrArg some (by kernel_rfl))
  t0 := Tryz.underlying0
  a0 := Tryz.isAgg0
  z0 := Tryz.sizeOf0
  v0 := Tryz.zeroValue0
  t3 := Tryz.underlying3
  a3 := Tryz.isAgg3
  z3 := Tryz.sizeOf3
  v3 := Tryz.zeroValue3
  t9 := Tryz.underlying9
  a9 := Tryz.isAgg9
  z9 := Tryz.sizeOf9
  v9 := Tryz.zeroValue9
  t37 := Tryz.underlying95
  a37 := Tryz.isAgg95
  z37 := Tryz.sizeOf95
  v37 := Tryz.zeroValue95
  t70 := Tryz.underlying94
  a70 := Tryz.isAgg94
  z70 := Tryz.sizeOf94
  v70 := Tryz.zeroValue94
  t72 := Tryz.underlying97
  a72 := Tryz.isAgg97
  z72 := Tryz.sizeOf97
  v72 := Tryz.zeroValue97
  t127 := Tryz.underlying132
  a127 := Tryz.isAgg132
  z127 := Tryz.sizeOf132
  v127 := Tryz.zeroValue132 }
theorem extra169 : Builder.Extra Tryz.prog ren169 := {
  sizeBuilder := by kernel_rfl
  liesBuilder := by kernel_rfl
  t5 := Tryz.underlying5
  a5 := Tryz.isAgg5
  z5 := Tryz.sizeOf5
  v5 := Tryz.zeroValue5
  infoByte := by kernel_rfl
  cellsByte := by kernel_rfl
  sizeByte := by kernel_rfl
  neB5 := by decide }
theorem bld_string (B b : Nat) (l : List UInt8) (w : World) (h : Lib.IsBuilderF 97 5 B b (Lib.byteCells l) w) (hBw : B ≤ w.heap.size) :
    Calls Tryz.prog 46 #[.pointer (some ⟨b, 0, none⟩)] w fun e w' => e = .returned (.string ⟨l.toArray⟩) ∧ (Lib.IsBuilderF 97 5 B b (Lib.byteCells l) w' ∧ Below B w w' ∧ Lib.OthersKept 5 (some b) w w') := Any.Builder_String_any_k lays169 extra169 B b l w h hBw

set_option maxHeartbeats 1000000 in
set_option maxRecDepth 100000 in
theorem copyCheck_fresh (b : Nat) (w : World) (h0 : w.cell? ⟨b, 0, none⟩ = some (.pointer none)) (hsh : w.shape? b = some (97, 2)) (hfz : w.frozen? ⟨b, 0, none⟩ = false) :
    Calls Tryz.prog 66 #[.pointer (some ⟨b, 0, none⟩)] w fun e w' => e = .returned (.tuple #[]) ∧ w' = w.setCell ⟨b, 0, none⟩ (.pointer (some ⟨b, 0, none⟩)) := by
  obtain ⟨j, hj, hjs⟩ := Option.map_eq_some_iff.1 (show (Tryz.prog.info? 97).map (·.size) = some 2 by kernel_rfl)
  go_enter Tryz.func66, Tryz.ntmps66
  go_wp2
  rw [Lib.run_to_unsafe w ⟨b, 0, none⟩ Tryz.underlying94 Tryz.underlying143 hj (by rw [hjs]; decide) hsh (Nat.zero_lt_succ 1)]
  simp only [Result.andThen]
  rw [Oper.upon_value]
  go_wp2
  rw [run_callFunc_extern Tryz.func88 (by kernel_rfl) (by kernel_rfl) (by kernel_rfl) (e := Extern.AbiNoEscape.same) (by kernel_rfl)]
  rw [Lib.run_noEscape]
  simp only [Result.andThen]
  rw [Oper.upon_value]
  go_wp2
  rw [Lib.run_from_unsafe w ⟨b, 0, none⟩ Tryz.underlying143 Tryz.underlying94 hj hsh extra169.liesBuilder]
  simp only [Result.andThen]
  rw [Oper.upon_value]
  go_wp2
  go_end0
  exact ⟨rfl, rfl⟩

set_option maxHeartbeats 1000000 in
set_option maxRecDepth 100000 in
theorem copyCheck_used (b : Nat) (w : World) (h0 : w.cell? ⟨b, 0, none⟩ = some (.pointer (some ⟨b, 0, none⟩))) :
    Calls Tryz.prog 66 #[.pointer (some ⟨b, 0, none⟩)] w fun e w' => e = .returned (.tuple #[]) ∧ w' = w := by
  obtain ⟨j, hj, _⟩ := Option.map_eq_some_iff.1 (show (Tryz.prog.info? 97).map (·.size) = some 2 by kernel_rfl)
  go_enter Tryz.func66, Tryz.ntmps66
  go_wp2
  rw [Lib.run_neq_ptr_same w _ Tryz.underlying94 hj]
  go_wp2
  go_end0
  exact ⟨rfl, rfl⟩

theorem copyCheck_any (B b : Nat) (bs : List Value) (w : World) (h : Lib.IsBuilderF 97 5 B b bs w) :
    Calls Tryz.prog 66 #[.pointer (some ⟨b, 0, none⟩)] w fun e w' => e = .returned (.tuple #[]) ∧ (Lib.BuilderAtF 97 5 B b (.pointer (some ⟨b, 0, none⟩)) bs w' ∧ Below B w w' ∧ Lib.OthersKept 5 (some b) w w') := by
  rcases h with h | h
  · refine (copyCheck_fresh b w h.cell0 h.shape h.frozen0).mono ?_
    rintro e w' ⟨rfl, rfl⟩
    exact ⟨rfl, h.used _, (Below.refl B w).setCell (p := ⟨b, 0, none⟩) h.1 _, (Lib.OthersKept.refl _ _ w).setCell ⟨b, 0, none⟩ rfl _⟩
  · refine (copyCheck_used b w h.cell0).mono ?_
    rintro e w' ⟨rfl, rfl⟩
    exact ⟨rfl, h, Below.refl B _, Lib.OthersKept.refl _ _ _⟩

theorem info5 : ∃ i, Tryz.prog.info? 5 = some i ∧ i.zero = some (.int .u8 0) ∧ i.size = 1 ∧ i.bytes = 1 :=
  by
  have h : (Tryz.prog.info? 5).map (fun i => (i.zero, i.size, i.bytes)) = some (some (.int .u8 0), 1, 1) := by kernel_rfl
  obtain ⟨i, hi, e⟩ := Option.map_eq_some_iff.1 h
  simp only [Prod.mk.injEq] at e
  exact ⟨i, hi, e.1, e.2.1, e.2.2⟩

/-- A builder's block, read: its own address, its bytes' slice, nothing frozen. -/
theorem bld_block {b : Nat} {p v : Value} {w : World} (h : w.heap[b]? = some (.cells #[p, v] 97 (0, 0))) : b < w.heap.size ∧ w.cell? ⟨b, 0, none⟩ = some p ∧ w.cell? ⟨b, 1, none⟩ = some v ∧ w.frozen? ⟨b, 1, none⟩ = false :=
  ⟨(Array.getElem?_eq_some_iff.1 h).1, Lib.cell_of_heap h 0, Lib.cell_of_heap h 1, Lib.frozen_of_heap h 1⟩
/-- The slice that an append leaves, laid back into the builder. -/
theorem bld_back {B b : Nat} {v v' : Value} {bs bs' : List Value} {w w1 w2 : World} (hB : B ≤ b) (hbk : w1.heap[b]? = some (.cells #[.pointer (some ⟨b, 0, none⟩), v] 97 (0, 0))) (hne : v.ownBlock ≠ some b) (hown : w1.ownsRowF B 5 1 v bs.length bs) (hb1 : Below B w w1) (hB1 : B ≤ w1.heap.size) (hk1 : Lib.OthersKept 5 (some b) w w1) (hg : w1.grownBy w2 v.ownBlock) (ho : w2.ownsRowF B 5 1 v' bs'.length bs') :
    (∃ a n c, v' = .slice a n c) ∧ w2.cell? ⟨b, 0, none⟩ = some (.pointer (some ⟨b, 0, none⟩)) ∧ w2.cell? ⟨b, 1, none⟩ = some v ∧ w2.frozen? ⟨b, 1, none⟩ = false ∧ Lib.BuilderAtF 97 5 B b (.pointer (some ⟨b, 0, none⟩)) bs' (w2.setCell ⟨b, 1, none⟩ v') ∧ Below B w (w2.setCell ⟨b, 1, none⟩ v') ∧ Lib.OthersKept 5 (some b) w (w2.setCell ⟨b, 1, none⟩ v') := by
  have h2 : w2.heap[b]? = some (.cells #[.pointer (some ⟨b, 0, none⟩), v] 97 (0, 0)) := (hg.block b (bld_block hbk).1 (fun e => hne e.symm)).trans hbk
  obtain ⟨-, q0, q1, q2⟩ := bld_block h2
  refine ⟨?_, q0, q1, q2, Lib.BuilderAtF.put (T := 97) (e := 5) hB h2 ho (by decide), (hb1.grown hg hB1 (fun k hk => (hown.lt k hk).1)).setCell (p := ⟨b, 1, none⟩) hB _, (hk1.grown hg (Lib.ownsRowF_kind hown)).setCell ⟨b, 1, none⟩ rfl _⟩
  rcases ho.2 with ⟨e, -⟩ | ⟨g, c, -, -, e, -⟩ <;> exact ⟨_, _, _, e⟩

set_option maxHeartbeats 2000000 in
set_option maxRecDepth 100000 in
theorem writeString_any (B b : Nat) (bs : List Value) (s : ByteArray) (w : World) (h : Lib.IsBuilderF 97 5 B b bs w) (hlen : bs.length + s.size ≤ 1000000) (hBw : B ≤ w.heap.size) :
    Calls Tryz.prog 43 #[.pointer (some ⟨b, 0, none⟩), .string s] w fun e w' => e = .returned (.tuple #[.int .i64 s.size, .nilIface]) ∧ (Lib.BuilderAtF 97 5 B b (.pointer (some ⟨b, 0, none⟩)) (bs ++ Lib.strCells s) w' ∧ Below B w w' ∧ Lib.OthersKept 5 (some b) w w') := by
  obtain ⟨i0, hi, hz0, hz1, hz2⟩ := info5
  go_enter Tryz.func43, Tryz.ntmps43
  go_wp2_with (go_at_call 66; refine (copyCheck_any B b bs _ h).mono ?_)
  rintro e w1 ⟨rfl, ⟨hB, v, hbk, hown, hne⟩, hb1, hk1⟩
  obtain ⟨hlt, c0, c1, -⟩ := bld_block hbk
  have hB1 : B ≤ w1.heap.size := Nat.le_trans hBw hb1.size
  go_wp2_with (at_builtin; refine Lib.wpList_append_own_stringF _ rfl _ _ 95 9 rfl B 5 i0 Tryz.underlying95 Tryz.underlying9 hi hz0 hz1 hz2 _ _ _ rfl hown s rfl ?f3 ?f4 hB1 ?_)
  case f3 => unfold maxLen; omega
  case f4 => omega
  intro v' w2 ho hg _
  obtain ⟨⟨a, n, cp, rfl⟩, d0, d1, f1, r1, r2, r3⟩ := bld_back (w := w) (bs' := bs ++ Lib.strCells s) hB hbk hne hown hb1 hB1 hk1 hg (by simpa [Lib.strCells_length] using ho)
  go_wp2
  go_ret2
  exact ⟨rfl, r1, r2, r3⟩
end Go.Proofs.YtohfjpahdoodgaaGreatDoor

/- Contracts (dd): a small count as text. -/
namespace Go.Proofs.YtohfjpahdoodgaaGreatDoor
open Go.RowKit
set_option linter.unusedSimpArgs false
set_option linter.unusedVariables false

theorem small2 (w : World) : Calls Tryz.prog 89 #[.int .i64 2] w fun e w' => e = .returned (.string ⟨#[50]⟩) ∧ w' = w := by
  go_enter Tryz.func89, Tryz.ntmps89
  go_wp2_with fail
  go_ret
  exact ⟨by kernel_rfl, rfl⟩
theorem format2 (w : World) : Calls Tryz.prog 67 #[.int .u64 2, .int .i64 10] w fun e w' => e = .returned (.string ⟨#[50]⟩) ∧ w' = w := by
  go_enter Tryz.func67, Tryz.ntmps67
  go_wp2_with fail
  refine Calls.mono (small2 _) ?_
  rintro e w1 ⟨rfl, rfl⟩
  go_wp2_with fail
  go_ret
  exact ⟨rfl, rfl⟩
theorem formatU2 (w : World) : Calls Tryz.prog 44 #[.int .u64 2, .int .i64 10] w fun e w' => e = .returned (.string ⟨#[50]⟩) ∧ w' = w := by
  go_enter Tryz.func44, Tryz.ntmps44
  go_wp2_with fail
  refine Calls.mono (format2 _) ?_
  rintro e w1 ⟨rfl, rfl⟩
  go_wp2_with fail
  go_ret
  exact ⟨rfl, rfl⟩
theorem text2 {w : World} {v : Value} (h : Um w v 2) : Calls Tryz.prog 32 #[v] w fun e w' => e = .returned (.string ⟨#[50]⟩) ∧ Below w.heap.size w w' := by
  obtain ⟨r, o, c, rfl, hr, hc⟩ := h.ex
  have hnew := heap_alloc_new w (.cells #[.pointer none, .slice none 0 0] 97)
  have hc1 : (w.alloc (.cells #[.pointer none, .slice none 0 0] 97)).cell? ⟨r, o, none⟩ = some (.int .u64 2) := by rw [← hc]; exact World.cell?_of_block (a := ⟨r, o, none⟩) (Lib.alloc_old w _ r hr)
  have HW : Hid (Calls Tryz.prog 43 #[.pointer (some ⟨w.heap.size, 0, none⟩), .string ⟨#[50]⟩] (w.alloc (.cells #[.pointer none, .slice none 0 0] 97)) fun e w' => e = .returned (.tuple #[.int .i64 1, .nilIface]) ∧ Lib.IsBuilderF 97 5 w.heap.size w.heap.size (Lib.byteCells [50]) w' ∧ Below w.heap.size w w') := by
    have hbl : Below w.heap.size w (w.alloc (.cells #[.pointer none, .slice none 0 0] 97)) := (Below.refl _ _).alloc (Nat.le_refl _) _
    refine (writeString_any w.heap.size w.heap.size [] ⟨#[50]⟩ _ (Or.inl ⟨by omega, .slice none 0 0, hnew, ⟨by simp, Or.inl ⟨rfl, rfl⟩⟩, by simp [Value.ownBlock]⟩) (by decide) (by simp)).mono ?_
    rintro e w' ⟨rfl, h1, h2, h3⟩
    exact ⟨rfl, Or.inr h1, hbl.trans h2⟩
  have HF : Hid _ := formatU2 (w.alloc (.cells #[.pointer none, .slice none 0 0] 97))
  clear hnew h
  go_enter Tryz.func32, Tryz.ntmps32
  go_wp2_with fail
  go_loopw [3] (fun i wr => i = .int .i64 0 ∧ w = wr) (fun _ _ => 0)
  case atStart => exact ⟨rfl, rfl⟩
  case round =>
  obtain ⟨rfl, rfl⟩ := hrel
  go_wp2_with fail
  refine Calls.mono HF.out ?_
  rintro e w1 ⟨rfl, rfl⟩
  go_wp2_with fail
  refine Calls.mono HW.out ?_
  rintro e w1 ⟨rfl, hW, hb⟩
  have HB : Hid _ := hb
  have HS : Hid _ := (bld_string w.heap.size _ [50] w1 hW hb.size).mono (fun e w' hh => (⟨hh.1, hh.2.2.1⟩ : e = .returned (.string ⟨#[50]⟩) ∧ Below w.heap.size w1 w'))
  clear hW hb HW HF
  go_wp2_with fail
  go_loopw [5] (fun i wr => i = .int .i64 (-1) ∧ w1 = wr) (fun _ _ => 0)
  case atStart => exact ⟨rfl, rfl⟩
  case round =>
  obtain ⟨rfl, rfl⟩ := hrel
  go_wp2_with fail
  refine Calls.mono HS.out ?_
  rintro e w2 ⟨rfl, hb2⟩
  go_wp2_with fail
  go_ret
  exact ⟨rfl, HB.out.trans hb2⟩
/-- Count of what has two assignments. -/
theorem count_two {w : World} {F0 : Nat → Prop} {g vars most : Nat} {S : St} {pn : Int → Int} (h0 : Gr w F0 g vars most S pn) (hv : vars ≤ 58) (f : Int) (ha : alive S.ns f) (h2 : cv vars S.ns f = 2) :
    Calls Tryz.prog 13 #[.pointer (some ⟨g, 0, none⟩), .int .i64 f] w fun e w' => e = .returned (.tuple #[.string ⟨#[50]⟩, .int .i64 0]) ∧ Below w.heap.size w w' := by
  have HH2 : Hid (Calls Tryz.prog 30 #[.pointer (some ⟨g, 1, none⟩), .int .i64 f] w fun e w' => e = .returned (.bool true) ∧ w' = w) := by
    have := has_any h0.cut f
    rwa [decide_eq_true ha] at this
  have HC : Hid (Calls Tryz.prog 31 #[.pointer (some ⟨g, 0, none⟩), .int .i64 f] w fun e w' => ∃ u, e = .returned u ∧ Um w' u 2 ∧ Below w.heap.size w w') := by
    have := count1 h0 hv f ha
    rw [h2] at this
    exact this
  clear h0 ha h2
  go_enter Tryz.func13, Tryz.ntmps13
  go_wp2_with fail
  refine HH2.out.mono ?_
  rintro e w0 ⟨rfl, hw0⟩
  rw [hw0]
  clear hw0 w0
  go_wp2_with fail
  refine HC.out.mono ?_
  rintro e w1 ⟨u, rfl, hu, hb⟩
  have HB : Hid _ := hb
  have HT : Hid _ := text2 hu
  obtain ⟨r, o, c, rfl, -, -⟩ := hu.ex
  clear hu hb HC HH2
  go_wp2_with fail
  refine Calls.mono HT.out ?_
  rintro e w2 ⟨rfl, hb2⟩
  go_wp2_with fail
  refine bodyPost_ret (v := .tuple #[.string ⟨#[50]⟩, .int .i64 0]) (by simp [results, Tryz.results13, go_sem]) rfl ?_
  exact ⟨rfl, HB.out.trans (hb2.mono HB.out.size)⟩
/-- Count of what isn't there. -/
theorem count_no {w : World} {F0 : Nat → Prop} {g vars most : Nat} {S : St} {pn : Int → Int} (h0 : Gr w F0 g vars most S pn) (f : Int) (ha : ¬ alive S.ns f) :
    Calls Tryz.prog 13 #[.pointer (some ⟨g, 0, none⟩), .int .i64 f] w fun e w' => e = .returned (.tuple #[.string ⟨#[]⟩, .int .i64 140]) ∧ w' = w := by
  have HH2 : Hid (Calls Tryz.prog 30 #[.pointer (some ⟨g, 1, none⟩), .int .i64 f] w fun e w' => e = .returned (.bool false) ∧ w' = w) := by
    have := has_any h0.cut f
    rwa [decide_eq_false ha] at this
  clear h0 ha
  go_enter Tryz.func13, Tryz.ntmps13
  go_wp2_with fail
  refine HH2.out.mono ?_
  rintro e w0 ⟨rfl, hw0⟩
  rw [hw0]
  clear hw0 w0
  go_wp2_with fail
  refine bodyPost_ret (v := .tuple #[.string ⟨#[]⟩, .int .i64 140]) (by simp [results, Tryz.results13, go_sem]) rfl ?_
  exact ⟨rfl, rfl⟩
end Go.Proofs.YtohfjpahdoodgaaGreatDoor

/- Contracts (dd): what operations answer where there is room. -/
namespace Go.Proofs.YtohfjpahdoodgaaGreatDoor
open Go.RowKit
set_option linter.unusedSimpArgs false
set_option linter.unusedVariables false

/-- The manager at g, with nothing spare. -/
structure Rm (w : World) (F : Nat → Prop) (g vars most : Nat) (S : St) (pn : Int → Int) : Prop where
  gr : Gr w F g vars most S pn
  sp : S.sp = []
  ps : ∃ P : List Int, (∀ f, f ∈ P ↔ 1 ≤ pn f) ∧ ∀ p ∈ P, alive S.ns p
/-- It has grown, no more than by k nodes. -/
structure Gw (vars : Nat) (S S' : St) (k : Nat) : Prop where
  pre : S.ns <+: S'.ns
  sp : S'.sp = []
  cnt : cntF S'.ns ≤ cntF S.ns + k
def OpG (w : World) (F : Nat → Prop) (g vars most : Nat) (S : St) (pn : Int → Int) (k : Nat) (V : (Int → Bool) → Bool) (e : Ending) (w' : World) : Prop :=
  ∃ f S' F', e = .returned (.tuple #[.int .i64 f, .int .i64 0]) ∧ Rm w' F' g vars most S' pn ∧ Ch w w' F F' ∧ Gw vars S S' k ∧ alive S'.ns f ∧ ∀ x, val vars S'.ns x f = V x
theorem Rm.good {w : World} {F : Nat → Prop} {g vars most : Nat} {S : St} {pn : Int → Int} (h : Rm w F g vars most S pn) : Good vars S.ns S.sp := h.gr.mg.good
theorem ansF_room {vars most : Nat} {P : List Int} {S : St} {q : T3} {O : List Int} (g : Good vars S.ns S.sp) (hP : ∀ i ∈ P, alive S.ns i) (hO : ∀ i ∈ O, alive S.ns i) (hq : QOk S.ns O q) (hsp : S.sp = []) (hc : cntF S.ns + 2 ^ vars ≤ most + 1) :
    ∃ f S', ansF vars most P S q O = (f, 0, S') ∧ S'.gone = S.gone ∧ Gw vars S S' (2 ^ vars) ∧ alive S'.ns f ∧ ∀ x, val vars S'.ns x f = qval (val vars S.ns x) q := by
  obtain ⟨f, S', R', e, h1, h2, h3, -, h5, h6, h7⟩ := ans_room g hP hO hq hsp hc
  refine ⟨f, S', ?_, h2, ⟨h5, h1, by omega⟩, h6, h7⟩
  unfold ansF
  rw [if_pos hO, e]
theorem opr_og {w w' : World} {F : Nat → Prop} {g vars most : Nat} {S : St} {pn : Int → Int} {P : List Int} {q : T3} {O : List Int} {e : Ending} {V : (Int → Bool) → Bool} (h : Rm w F g vars most S pn) (hP : ∀ f, f ∈ P ↔ 1 ≤ pn f) (hPa : ∀ p ∈ P, alive S.ns p)
    (hA : ∃ f S', ansF vars most P S q O = (f, 0, S') ∧ S'.gone = S.gone ∧ Gw vars S S' (2 ^ vars) ∧ alive S'.ns f ∧ ∀ x, val vars S'.ns x f = qval (val vars S.ns x) q) (hV : ∀ x, qval (val vars S.ns x) q = V x) (hr : OpR false w F g vars most S pn (ansF vars most P S q O) e w') : OpG w F g vars most S pn (2 ^ vars) V e w' := by
  obtain ⟨f, S', e1, h1, h2, h3, h4⟩ := hA
  rw [e1] at hr
  obtain ⟨r1, r2, F', r3, r4⟩ := hr
  exact ⟨f, S', F', r1, ⟨r3, h2.sp, P, hP, fun p hp => pre_alive h2.pre (hPa p hp)⟩, r4, h2, h3, fun x => by rw [h4 x, hV x]⟩
section
variable {w : World} {F : Nat → Prop} {g vars most : Nat} {S : St} {pn : Int → Int}
theorem rz1 {ns : List T3} {O : List Int} {i : Int} (h : i ∈ O) : Rz ns O i := Or.inr (Or.inr (Rc.base h))
theorem not_room (h : Rm w F g vars most S pn) (f : Int) (hf : alive S.ns f) (hc : cntF S.ns + 2 ^ vars ≤ most + 1) :
    Calls Tryz.prog 11 #[.pointer (some ⟨g, 0, none⟩), .int .i64 f] w (OpG w F g vars most S pn (2 ^ vars) (fun x => !val vars S.ns x f)) := by
  obtain ⟨P, hP, hPa⟩ := h.ps
  have hO : ∀ i ∈ [f], alive S.ns i := by simpa using hf
  have hA := ansF_room (q := (f, 0, 1)) h.good hPa hO ⟨rz1 (by simp), Or.inr (Or.inl rfl), Or.inr (Or.inl rfl)⟩ h.sp hc
  refine (not_any ansC_no h.gr f hP hPa ?_).mono fun e w' hr => opr_og h hP hPa hA (fun x => ?_) hr
  · obtain ⟨f', S', e1, h1, -⟩ := hA
    rw [e1]; exact Or.inr ⟨h.sp, h1⟩
  · obtain ⟨v0, v1⟩ := val_01 vars S.ns x
    simp only [qval, v0, v1]; cases val vars S.ns x f <;> rfl
theorem and_room (h : Rm w F g vars most S pn) (f f2 : Int) (hf : alive S.ns f) (hf2 : alive S.ns f2) (hc : cntF S.ns + 2 ^ vars ≤ most + 1) :
    Calls Tryz.prog 8 #[.pointer (some ⟨g, 0, none⟩), .int .i64 f, .int .i64 f2] w (OpG w F g vars most S pn (2 ^ vars) (fun x => val vars S.ns x f && val vars S.ns x f2)) := by
  obtain ⟨P, hP, hPa⟩ := h.ps
  have hO : ∀ i ∈ [f, f2], alive S.ns i := by simpa using ⟨hf, hf2⟩
  have hA := ansF_room (q := (f, f2, 0)) h.good hPa hO ⟨rz1 (by simp), Or.inr (rz1 (by simp)), Or.inl rfl⟩ h.sp hc
  refine (and_any ansC_no h.gr f f2 hP hPa ?_).mono fun e w' hr => opr_og h hP hPa hA (fun x => ?_) hr
  · obtain ⟨f', S', e1, h1, -⟩ := hA
    rw [e1]; exact Or.inr ⟨h.sp, h1⟩
  · obtain ⟨v0, v1⟩ := val_01 vars S.ns x
    have := hf2.1
    simp only [qval, v0, if_neg (show f2 ≠ -1 by omega)]; cases val vars S.ns x f <;> rfl
theorem or_room (h : Rm w F g vars most S pn) (f f2 : Int) (hf : alive S.ns f) (hf2 : alive S.ns f2) (hc : cntF S.ns + 2 ^ vars ≤ most + 1) :
    Calls Tryz.prog 10 #[.pointer (some ⟨g, 0, none⟩), .int .i64 f, .int .i64 f2] w (OpG w F g vars most S pn (2 ^ vars) (fun x => val vars S.ns x f || val vars S.ns x f2)) := by
  obtain ⟨P, hP, hPa⟩ := h.ps
  have hO : ∀ i ∈ [f, f2], alive S.ns i := by simpa using ⟨hf, hf2⟩
  have hA := ansF_room (q := (f, 1, f2)) h.good hPa hO ⟨rz1 (by simp), Or.inr (Or.inr (Or.inl rfl)), rz1 (by simp)⟩ h.sp hc
  refine (or_any ansC_no h.gr f f2 hP hPa ?_).mono fun e w' hr => opr_og h hP hPa hA (fun x => ?_) hr
  · obtain ⟨f', S', e1, h1, -⟩ := hA
    rw [e1]; exact Or.inr ⟨h.sp, h1⟩
  · obtain ⟨v0, v1⟩ := val_01 vars S.ns x
    simp only [qval, v1]; cases val vars S.ns x f <;> rfl
theorem xor_room (h : Rm w F g vars most S pn) (f f2 : Int) (hf : alive S.ns f) (hf2 : alive S.ns f2) (hc : cntF S.ns + 2 ^ vars ≤ most + 1) :
    Calls Tryz.prog 17 #[.pointer (some ⟨g, 0, none⟩), .int .i64 f, .int .i64 f2] w (OpG w F g vars most S pn (2 ^ vars) (fun x => xor (val vars S.ns x f) (val vars S.ns x f2))) := by
  obtain ⟨P, hP, hPa⟩ := h.ps
  have hO : ∀ i ∈ [f, f2], alive S.ns i := by simpa using ⟨hf, hf2⟩
  have hA := ansF_room (q := (f, -1, f2)) h.good hPa hO ⟨rz1 (by simp), Or.inl rfl, rz1 (by simp)⟩ h.sp hc
  refine (xor_any ansC_no h.gr f f2 hP hPa ?_).mono fun e w' hr => opr_og h hP hPa hA (fun x => ?_) hr
  · obtain ⟨f', S', e1, h1, -⟩ := hA
    rw [e1]; exact Or.inr ⟨h.sp, h1⟩
  · simp only [qval, if_true]; cases val vars S.ns x f <;> simp
theorem ite_room (h : Rm w F g vars most S pn) (f f2 f3 : Int) (hf : alive S.ns f) (hf2 : alive S.ns f2) (hf3 : alive S.ns f3) (hc : cntF S.ns + 2 ^ vars ≤ most + 1) :
    Calls Tryz.prog 25 #[.pointer (some ⟨g, 0, none⟩), .int .i64 f, .int .i64 f2, .int .i64 f3] w (OpG w F g vars most S pn (2 ^ vars) (fun x => if val vars S.ns x f then val vars S.ns x f2 else val vars S.ns x f3)) := by
  obtain ⟨P, hP, hPa⟩ := h.ps
  have hO : ∀ i ∈ [f, f2, f3], alive S.ns i := by simpa using ⟨hf, hf2, hf3⟩
  have hA := ansF_room (q := (f, f2, f3)) h.good hPa hO ⟨rz1 (by simp), Or.inr (rz1 (by simp)), rz1 (by simp)⟩ h.sp hc
  refine (ite_any ansC_no h.gr f f2 f3 hP hPa ?_).mono fun e w' hr => opr_og h hP hPa hA (fun x => ?_) hr
  · obtain ⟨f', S', e1, h1, -⟩ := hA
    rw [e1]; exact Or.inr ⟨h.sp, h1⟩
  · have := hf2.1
    simp only [qval, if_neg (show f2 ≠ -1 by omega)]
theorem var_room' (h : Rm w F g vars most S pn) (i : Int) (hi : 0 ≤ i ∧ i < vars) (hc : cntF S.ns < most) :
    Calls Tryz.prog 16 #[.pointer (some ⟨g, 0, none⟩), .int .i64 i] w (OpG w F g vars most S pn 1 (fun x => x i)) := by
  obtain ⟨P, hP, hPa⟩ := h.ps
  have hA : ∀ i ∈ P ++ valsR [] ++ [], alive S.ns i := by simpa [valsR] using hPa
  obtain ⟨f, S', e, h1, h2, h3, h4, h5, h6, h7⟩ := var_room (most := most) h.good hi h.sp hc hA
  have hV : varF vars most P S i = (f, 0, S') := by unfold varF; rw [if_pos hi, e]; rfl
  refine (var_any nodeC_no h.gr i hP hPa ?_).mono fun e' w' hr => ?_
  · rw [hV]; exact Or.inr ⟨h.sp, h2⟩
  · rw [hV] at hr
    obtain ⟨r1, r2, F', r3, r4⟩ := hr
    exact ⟨f, S', F', r1, ⟨r3, h1, P, hP, fun p hp => pre_alive h5 (hPa p hp)⟩, r4, ⟨h5, h1, h3⟩, h6, h7⟩
theorem var_bad (h : Rm w F g vars most S pn) (i : Int) (hi : ¬ (0 ≤ i ∧ i < vars)) :
    Calls Tryz.prog 16 #[.pointer (some ⟨g, 0, none⟩), .int .i64 i] w fun e w' => e = .returned (.tuple #[.int .i64 0, .int .i64 142]) ∧ ∃ F', Rm w' F' g vars most S pn ∧ Ch w w' F F' := by
  obtain ⟨P, hP, hPa⟩ := h.ps
  have hV : varF vars most P S i = (0, 142, S) := by unfold varF; rw [if_neg hi]
  refine (var_any nodeC_no h.gr i hP hPa ?_).mono fun e' w' hr => ?_
  · rw [hV]; exact Or.inr ⟨h.sp, rfl⟩
  · rw [hV] at hr
    obtain ⟨r1, r2, F', r3, r4⟩ := hr
    exact ⟨r1, F', ⟨r3, h.sp, P, hP, hPa⟩, r4⟩
end
end Go.Proofs.YtohfjpahdoodgaaGreatDoor
