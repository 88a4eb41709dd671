/- Contracts (sexp): things are written, and counted. -/
import Derived.Test.YtikdjloedeinhaaDoorSX15
import Derived.Test.YtikdjloedeinhaaDoorSXB
namespace Go.Proofs.YtikdjloedeinhaaDoor
open Go.RowKit
set_option linter.unusedSimpArgs false
set_option linter.unusedVariables false

mutual
/-- What a thing is written as. -/
def Sx.prt : Sx → List UInt8
  | .mk w l ks => if l then 40 :: (pks true ks ++ [41]) else w.data.toList
def pks : Bool → List Sx → List UInt8
  | _, [] => []
  | b, x :: r => (if b then [] else [32]) ++ (x.prt ++ pks false r)
end
mutual
/-- How many things it has. -/
def Sx.siz : Sx → Nat
  | .mk _ l ks => if l then 1 + sizs ks else 1
def sizs : List Sx → Nat
  | [] => 0
  | x :: r => x.siz + sizs r
end
theorem pks_snoc (x : Sx) : ∀ (l : List Sx) (b : Bool), pks b (l ++ [x]) = pks b l ++ ((if b && l.isEmpty then [] else [32]) ++ x.prt)
  | [], b => by simp [pks]
  | y :: l, b => by simp [pks, pks_snoc x l false]
theorem pks_take {ks : List Sx} {j : Nat} {x : Sx} (h : ks[j]? = some x) : pks true (ks.take (j + 1)) = pks true (ks.take j) ++ ((if j = 0 then [] else [32]) ++ x.prt) := by
  have hl : j < ks.length := (List.getElem?_eq_some_iff.1 h).1
  rw [List.take_add_one, h]
  show pks true (ks.take j ++ [x]) = _
  rw [pks_snoc]
  congr 2
  cases j with
  | zero => simp
  | succ j =>
    cases ks with
    | nil => simp at hl
    | cons a l => simp
theorem pks_mono {ks : List Sx} {j : Nat} : (pks true (ks.take j)).length ≤ (pks true ks).length := by
  have key : ∀ (l : List Sx) (b : Bool) (j : Nat), (pks b (l.take j)).length ≤ (pks b l).length := by
    intro l
    induction l with
    | nil => intro b j; simp
    | cons x r ih =>
      intro b j
      cases j with
      | zero => simp [pks]
      | succ j => simp only [List.take_succ_cons, pks, List.length_append]; have := ih false j; omega
  exact key ks true j
theorem sizs_take {ks : List Sx} {j : Nat} {x : Sx} (h : ks[j]? = some x) : sizs (ks.take (j + 1)) = sizs (ks.take j) + x.siz := by
  rw [List.take_add_one, h]
  show sizs (ks.take j ++ [x]) = _
  have key : ∀ l : List Sx, sizs (l ++ [x]) = sizs l + x.siz := by
    intro l
    induction l with
    | nil => simp [sizs]
    | cons y r ih => simp only [List.cons_append, sizs, ih]; omega
  exact key _
theorem sizs_mono {ks : List Sx} {j : Nat} : sizs (ks.take j) ≤ sizs ks := by
  have key : ∀ (l : List Sx) (j : Nat), sizs (l.take j) ≤ sizs l := by
    intro l
    induction l with
    | nil => intro j; simp
    | cons x r ih =>
      intro j
      cases j with
      | zero => simp [sizs]
      | succ j => simp only [List.take_succ_cons, sizs]; have := ih j; omega
  exact key ks j
/-- A thing's row, read: the slice; each kid's cells. -/
theorem row_get {w : World} {D : Nat → Prop} {ks : List Sx} {v : Value} (h : Row w D ks v) : ∃ a c, v = .slice a ks.length c ∧ ∀ (j : Nat) (x : Sx), ks[j]? = some x → ∃ g o u, a = some ⟨g, o, none⟩ ∧ D g ∧ g < w.heap.size ∧ w.cell? ⟨g, o + j * 3, none⟩ = some (.string x.w) ∧ w.cell? ⟨g, o + j * 3 + 1, none⟩ = some (.bool x.l) ∧ w.cell? ⟨g, o + j * 3 + 2, none⟩ = some u ∧ Row w D x.ks u := by
  cases h with
  | nil a cap => exact ⟨a, cap, rfl, fun j x hx => by simp at hx⟩
  | some g o cap _ U hD _ hc hk =>
    refine ⟨_, cap, rfl, fun j x hx => ?_⟩
    obtain ⟨h1, h2, h3⟩ := hc j x hx
    exact ⟨g, o, U j, rfl, hD, World.block_lt_of_cell? _ _ h1, h1, h2, h3, hk j x hx⟩
theorem row_low {w w' : World} {D : Nat → Prop} {B : Nat} {ks : List Sx} {v : Value} (h : Row w D ks v) (hD : ∀ g, D g → g < B) (hb : Below B w w') : Row w' D ks v := h.keep (fun g hg => hb.block g (hD g hg)) (fun _ h => h)
theorem byte_app (l m : List UInt8) : Lib.byteCells (l ++ m) = Lib.byteCells l ++ Lib.byteCells m := by simp [Lib.byteCells]
theorem kept_block {w w' : World} {b k : Nat} {cs : Array Value} {T : TypeId} (h : Lib.OthersKept 5 (some b) w w') (hk : w.heap[k]? = some (.cells cs T (0, 0))) (hb : k ≠ b) (hT : T ≠ 5) : w'.heap[k]? = some (.cells cs T (0, 0)) :=
  h k _ hk (fun e => hb (by injection e)) (fun c fz e => hT (by injection e))
/-- What writing leaves. -/
structure Wr (w w' : World) (B b : Nat) (l : List UInt8) : Prop where
  bld : Lib.IsBuilderF 70 5 B b (Lib.byteCells l) w'
  bel : Below B w w'
  oth : Lib.OthersKept 5 (some b) w w'
theorem writeB {w : World} {B b : Nat} {l : List UInt8} (h : Lib.IsBuilderF 70 5 B b (Lib.byteCells l) w) (hl : l.length ≤ 900000) (hB : B ≤ w.heap.size) (c : UInt8) :
    Calls Tryd.prog 45 #[.pointer (some ⟨b, 0, none⟩), .int .u8 (c.toNat : Int)] w fun e w' => e = .returned .nilIface ∧ Wr w w' B b (l ++ [c]) := by
  refine (writeByte_any B b _ (c.toNat : Int) w h (by rw [Lib.byteCells_length]; omega) hB).mono ?_
  rintro e w' ⟨rfl, h1, h2, h3⟩
  exact ⟨rfl, Or.inr (by rw [byte_app]; exact h1), h2, h3⟩
theorem writeS {w : World} {B b : Nat} {l : List UInt8} (h : Lib.IsBuilderF 70 5 B b (Lib.byteCells l) w) (s : ByteArray) (hl : l.length + s.size ≤ 900000) (hB : B ≤ w.heap.size) :
    Calls Tryd.prog 44 #[.pointer (some ⟨b, 0, none⟩), .string s] w fun e w' => e = .returned (.tuple #[.int .i64 s.size, .nilIface]) ∧ Wr w w' B b (l ++ s.data.toList) := by
  refine (writeString_any B b _ s w h (by rw [Lib.byteCells_length]; omega) hB).mono ?_
  rintro e w' ⟨rfl, h1, h2, h3⟩
  exact ⟨rfl, Or.inr (by rw [byte_app]; exact h1), h2, h3⟩

theorem pks_len : ∀ (ks : List Sx), ks.length ≤ (pks true ks).length + 1 := by
  have key : ∀ (l : List Sx), l.length ≤ (pks false l).length := by
    intro l
    induction l with
    | nil => simp
    | cons x r ih => simp only [pks, List.length_cons, List.length_append]; show _ ≤ 1 + _; omega
  intro ks
  cases ks with
  | nil => simp
  | cons x r => simp only [pks, List.length_cons, List.length_append]; have := key r; omega
set_option maxRecDepth 20000 in
set_option maxHeartbeats 6400000 in
theorem write_any (x : Sx) : ∀ {w : World} {D : Nat → Prop} {B b : Nat} {l : List UInt8} {u : Value} (_ : Row w D x.ks u) (_ : ∀ g, D g → g < B) (_ : Lib.IsBuilderF 70 5 B b (Lib.byteCells l) w) (_ : B ≤ w.heap.size) (_ : l.length + x.prt.length ≤ 800000),
    Calls Tryd.prog 30 #[.pointer (some ⟨b, 0, none⟩), .agg #[.string x.w, .bool x.l, u]] w fun e w' => e = .returned (.tuple #[]) ∧ Wr w w' B b (l ++ x.prt) := by
  match x with
  | .mk sw tl ks =>
  intro w D B b l u hr hD hb hB hlen
  have IH : Hid (∀ (y : Sx), y ∈ ks → ∀ {w : World} {D : Nat → Prop} {B b : Nat} {l : List UInt8} {u : Value} (_ : Row w D y.ks u) (_ : ∀ g, D g → g < B) (_ : Lib.IsBuilderF 70 5 B b (Lib.byteCells l) w) (_ : B ≤ w.heap.size) (_ : l.length + y.prt.length ≤ 800000),
    Calls Tryd.prog 30 #[.pointer (some ⟨b, 0, none⟩), .agg #[.string y.w, .bool y.l, u]] w fun e w' => e = .returned (.tuple #[]) ∧ Wr w w' B b (l ++ y.prt)) := fun y hy => write_any y
  have hr' : Row w D ks u := hr
  clear hr
  show Calls Tryd.prog 30 #[.pointer (some ⟨b, 0, none⟩), .agg #[.string sw, .bool tl, u]] w fun e w' => e = .returned (.tuple #[]) ∧ Wr w w' B b (l ++ (Sx.mk sw tl ks).prt)
  obtain ⟨a, c, rfl, hget⟩ := row_get hr'
  have hlb : b < w.heap.size := by rcases hb with h | h <;> exact h.lt
  cases tl
  · have hp : (Sx.mk sw false ks).prt = sw.data.toList := by simp [Sx.prt]
    rw [hp] at hlen ⊢
    have hb1 := hb.alloc (.cells #[.string sw, .bool false, .slice a ks.length c] 35)
    have HWS : Hid _ := writeS hb1 sw (by rw [len_t] at hlen; omega) (by simp; omega)
    clear hb hb1 hget hr' IH hp hlen hlb
    go_enter Tryd.func30, Tryd.ntmps30
    go_wp2_with fail
    refine Calls.mono HWS.out ?_
    rintro e w1 ⟨rfl, h1, h2, h3⟩
    go_wp2_with fail
    refine bodyPost_ret (results_none rfl _ _ _) rfl ?_
    exact ⟨rfl, h1, ((Below.refl B w).alloc hB _).trans h2, ((Lib.OthersKept.refl 5 (some b) w).alloc _).trans h3⟩
  · have hp : (Sx.mk sw true ks).prt = 40 :: (pks true ks ++ [41]) := by simp [Sx.prt]
    have hpl : (Sx.mk sw true ks).prt.length = (pks true ks).length + 2 := by rw [hp]; simp
    have hkl := pks_len ks
    rw [hpl] at hlen
    have HPP : Hid _ := hp
    have hb1 := hb.alloc (.cells #[.string sw, .bool true, .slice a ks.length c] 35)
    have HWB : Hid (Calls Tryd.prog 45 #[.pointer (some ⟨b, 0, none⟩), .int .u8 40] (w.alloc (.cells #[.string sw, .bool true, .slice a ks.length c] 35)) fun e w' => e = .returned .nilIface ∧ Wr (w.alloc (.cells #[.string sw, .bool true, .slice a ks.length c] 35)) w' B b (l ++ [40])) := writeB hb1 (by omega) (by simp; omega) 40
    have HG : Hid _ := hget
    have HR : Hid _ := hr'
    obtain ⟨N, hN⟩ : ∃ N, N = ks.length := ⟨_, rfl⟩
    have HN : Hid _ := hN
    have hN9 : N ≤ 900000 := by omega
    rw [← hN] at HWB HR ⊢
    have HLEN : Hid _ := hlen
    have HPL : Hid _ := hpl
    clear hb hb1 hget hr' hp hlen hpl hkl hN
    go_enter Tryd.func30, Tryd.ntmps30
    go_wp2_with fail
    refine Calls.mono HWB.out ?_
    rintro e w1 ⟨rfl, hW1⟩
    have hbk : w1.heap[w.heap.size]? = some (.cells #[.string sw, .bool true, .slice a N c] 35 (0, 0)) := kept_block hW1.oth (heap_alloc_new w _) (by omega) (by decide)
    have k2 : w1.cell? ⟨w.heap.size, 2, none⟩ = some (.slice a N c) := cell_of hbk 2 rfl
    have HW1 : Hid (Wr w w1 B b (l ++ 40 :: pks true (ks.take 0))) := ⟨by simp [pks]; exact hW1.bld, ((Below.refl B w).alloc hB _).trans hW1.bel, ((Lib.OthersKept.refl 5 (some b) w).alloc _).trans hW1.oth⟩
    clear hW1 hbk HWB
    go_wp2_with fail
    go_loopw [18] (fun i wr => ∃ k : Nat, k ≤ N ∧ i = .int .i64 (k : Int) ∧ Hid (Wr w wr B b (l ++ 40 :: pks true (ks.take k)))) (fun i wr => N - (intOf i).toNat)
    case atStart => exact ⟨0, Nat.zero_le _, rfl, HW1.out⟩
    case round =>
      clear HW1
      obtain ⟨k, hk, rfl, hW⟩ := hrel
      have hsr : w.heap.size ≤ wr.heap.size := hW.out.bel.size
      by_cases hlt : k < N
      · obtain ⟨y, hy⟩ : ∃ y, ks[k]? = some y := ⟨_, List.getElem?_eq_getElem (by rw [← HN.out]; exact hlt)⟩
        obtain ⟨g, o, uy, rfl, hDg, hgl, g0, g1, g2, hRy⟩ := HG.out k y hy
        have cc : ∀ i, wr.cell? ⟨g, i, none⟩ = w.cell? ⟨g, i, none⟩ := fun i => World.cell?_of_block (a := ⟨g, i, none⟩) (hW.out.bel.block g (hD g hDg))
        have d0 : wr.cell? ⟨g, o + k * 3, none⟩ = some (.string y.w) := (cc _).trans g0
        have d1 : wr.cell? ⟨g, o + k * 3 + 1, none⟩ = some (.bool y.l) := (cc _).trans g1
        obtain ⟨ay, ny, cy, rfl⟩ := hRy.sl
        have d2 : wr.cell? ⟨g, o + k * 3 + 2, none⟩ = some (.slice ay ny cy) := (cc _).trans g2
        have HRY : Hid _ := hRy
        have hltI : (k : Int) < (N : Int) := by omega
        have hPT := pks_take hy
        have hPM := pks_mono (ks := ks) (j := k + 1)
        rw [hPT, List.length_append, List.length_append] at hPM
        have HPT : Hid _ := hPT
        have HPM : Hid _ := hPM
        have HYM : Hid _ := List.mem_of_getElem? hy
        have hbox : ∀ (wx : World) (T : TypeId) (cs : Array Value), wr.heap.size < wr.heap.size + 1 := fun _ _ _ => by omega
        have hne : wr.heap.size ≠ b := by omega
        clear hy g0 g1 g2 hRy cc hPT hPM hbox
        by_cases hk0 : k = 0
        · subst hk0
          rw [Nat.zero_mul, Nat.add_zero] at d0 d1 d2
          have HWY : Hid _ := IH.out y HYM.out (row_low HRY.out hD (hW.out.bel.alloc (by omega) (.cells #[.string y.w, .bool y.l, .slice ay ny cy] 35))) hD (hW.out.bld.alloc (.cells #[.string y.w, .bool y.l, .slice ay ny cy] 35)) (by simp; omega) (by have h1 := HPM.out; have h2 := HLEN.out; simp only [if_true, List.length_nil] at h1; rw [List.length_append, List.length_cons]; omega)
          go_wp2_with fail
          refine Calls.mono HWY.out ?_
          rintro e w2 ⟨rfl, hW2⟩
          go_wp2_with fail
          exact ⟨⟨1, by omega, rfl, ⟨by have h1 := hW2.bld; rw [HPT.out]; simpa using h1, (hW.out.bel.alloc (by omega) _).trans hW2.bel, (hW.out.oth.alloc _).trans hW2.oth⟩⟩, by simp [intOf]; omega⟩
        · have hkp : (0 : Int) < (k : Int) := by omega
          have HWB2 : Hid (Calls Tryd.prog 45 #[.pointer (some ⟨b, 0, none⟩), .int .u8 32] (wr.alloc (.cells #[.string y.w, .bool y.l, .slice ay ny cy] 35)) fun e w' => e = .returned .nilIface ∧ Wr (wr.alloc (.cells #[.string y.w, .bool y.l, .slice ay ny cy] 35)) w' B b (l ++ 40 :: pks true (ks.take k) ++ [32])) := writeB (hW.out.bld.alloc _) (by have h1 := HPM.out; have h2 := HLEN.out; rw [List.length_append, List.length_cons]; omega) (by simp; omega) 32
          go_wp2_with fail
          refine Calls.mono HWB2.out ?_
          rintro e w2 ⟨rfl, hW2⟩
          have hbk : w2.heap[wr.heap.size]? = some (.cells #[.string y.w, .bool y.l, .slice ay ny cy] 35 (0, 0)) := kept_block hW2.oth (heap_alloc_new wr _) hne (by decide)
          have e0 : w2.cell? ⟨wr.heap.size, 0, none⟩ = some (.string y.w) := cell_of hbk 0 rfl
          have e1 : w2.cell? ⟨wr.heap.size, 1, none⟩ = some (.bool y.l) := cell_of hbk 1 rfl
          have e2 : w2.cell? ⟨wr.heap.size, 2, none⟩ = some (.slice ay ny cy) := cell_of hbk 2 rfl
          have hBL2 : Below B w w2 := (hW.out.bel.alloc (by omega) _).trans hW2.bel
          have HOT : Hid (Lib.OthersKept 5 (some b) w w2) := (hW.out.oth.alloc _).trans hW2.oth
          have HWY : Hid _ := IH.out y HYM.out (row_low HRY.out hD hBL2) hD hW2.bld (by have := hBL2.size; omega) (by have h1 := HPM.out; have h2 := HLEN.out; rw [if_neg hk0] at h1; simp only [List.length_append, List.length_cons, List.length_nil] at h1 ⊢; omega)
          have HBL2 : Hid _ := hBL2
          clear hbk hW2 hBL2 d0 d1 d2 HWB2
          go_wp2_with fail
          refine Calls.mono HWY.out ?_
          rintro e w3 ⟨rfl, hW3⟩
          go_wp2_with fail
          exact ⟨⟨k + 1, by omega, rfl, ⟨by have h1 := hW3.bld; rw [HPT.out, if_neg hk0]; simpa using h1, HBL2.out.trans hW3.bel, HOT.out.trans hW3.oth⟩⟩, by simp [intOf]; omega⟩
      · obtain rfl : k = N := by omega
        have htk : ks.take k = ks := by rw [HN.out]; exact List.take_length
        have hWk := hW.out
        rw [htk] at hWk
        have HWB2 : Hid (Calls Tryd.prog 45 #[.pointer (some ⟨b, 0, none⟩), .int .u8 41] wr fun e w' => e = .returned .nilIface ∧ Wr wr w' B b (l ++ 40 :: pks true ks ++ [41])) := writeB hWk.bld (by have h2 := HLEN.out; rw [List.length_append, List.length_cons]; omega) (by omega) 41
        have HWK : Hid _ := hWk
        clear htk hWk
        go_wp2_with fail
        refine Calls.mono HWB2.out ?_
        rintro e w2 ⟨rfl, hW2⟩
        go_wp2_with fail
        go_end0
        exact ⟨rfl, by have h1 := hW2.bld; rw [HPP.out]; simpa using h1, HWK.out.bel.trans hW2.bel, HWK.out.oth.trans hW2.oth⟩
termination_by SizeOf.sizeOf x
decreasing_by
  simp_wf
  have := List.sizeOf_lt_of_mem hy
  omega

set_option maxRecDepth 20000 in
set_option maxHeartbeats 3200000 in
theorem Print_any {x : Sx} {w : World} {D : Nat → Prop} {u : Value} (hr : Row w D x.ks u) (hD : ∀ g, D g → g < w.heap.size) (hlen : x.prt.length ≤ 700000) :
    Calls Tryd.prog 15 #[.agg #[.string x.w, .bool x.l, u]] w fun e w' => e = .returned (.string ⟨x.prt.toArray⟩) ∧ Below w.heap.size w w' := by
  obtain ⟨a, n, c, rfl⟩ := hr.sl
  have HW : Hid (Calls Tryd.prog 30 #[.pointer (some ⟨w.heap.size + 1, 0, none⟩), .agg #[.string x.w, .bool x.l, .slice a n c]] ((w.alloc (.cells #[.string x.w, .bool x.l, .slice a n c] 35)).alloc (.cells #[.pointer none, .slice none 0 0] 70)) fun e w' => e = .returned (.tuple #[]) ∧ Lib.IsBuilderF 70 5 w.heap.size (w.heap.size + 1) (Lib.byteCells x.prt) w' ∧ Below w.heap.size w w') := by
    have hs : (w.alloc (.cells #[.string x.w, .bool x.l, .slice a n c] 35)).heap.size = w.heap.size + 1 := by simp
    have hbl : Below w.heap.size w ((w.alloc (.cells #[.string x.w, .bool x.l, .slice a n c] 35)).alloc (.cells #[.pointer none, .slice none 0 0] 70)) := ((Below.refl _ _).alloc (Nat.le_refl _) _).alloc (by simp) _
    have hnew := heap_alloc_new (w.alloc (.cells #[.string x.w, .bool x.l, .slice a n c] 35)) (.cells #[.pointer none, .slice none 0 0] 70)
    rw [hs] at hnew
    have h1 := write_any x (l := []) (B := w.heap.size) (b := w.heap.size + 1) (row_low hr hD hbl) hD (Or.inl ⟨by omega, .slice none 0 0, hnew, ⟨by simp [Lib.byteCells], Or.inl ⟨rfl, rfl⟩⟩, by simp [Value.ownBlock]⟩) (by simp; omega) (by simp; omega)
    refine h1.mono ?_
    rintro e w' ⟨rfl, hW⟩
    exact ⟨rfl, by simpa using hW.bld, hbl.trans hW.bel⟩
  clear hr
  go_enter Tryd.func15, Tryd.ntmps15
  go_wp2_with fail
  refine Calls.mono HW.out ?_
  rintro e w1 ⟨rfl, hW, hbe⟩
  have HB : Hid _ := hbe
  have HS : Hid (Calls Tryd.prog 31 #[.pointer (some ⟨w.heap.size + 1, 0, none⟩)] w1 fun e w' => e = .returned (.string ⟨x.prt.toArray⟩) ∧ Below w.heap.size w1 w') := (bld_string w.heap.size _ x.prt w1 hW hbe.size).mono (fun e w' hh => ⟨hh.1, hh.2.2.1⟩)
  clear hW hbe HW
  go_wp2_with fail
  refine Calls.mono HS.out ?_
  rintro e w2 ⟨rfl, hb2⟩
  go_wp2_with fail
  go_ret
  exact ⟨rfl, HB.out.trans hb2⟩

set_option maxRecDepth 20000 in
set_option maxHeartbeats 6400000 in
theorem Size_any (x : Sx) : ∀ {w : World} {D : Nat → Prop} {u : Value} (_ : Row w D x.ks u) (_ : ∀ g, D g → g < w.heap.size) (_ : x.siz ≤ 4000000),
    Calls Tryd.prog 17 #[.agg #[.string x.w, .bool x.l, u]] w fun e w' => e = .returned (.int .i64 (x.siz : Nat)) ∧ Below w.heap.size w w' := by
  match x with
  | .mk sw tl ks =>
  intro w D u hr hD hlen
  have IH : Hid (∀ (y : Sx), y ∈ ks → ∀ {w : World} {D : Nat → Prop} {u : Value} (_ : Row w D y.ks u) (_ : ∀ g, D g → g < w.heap.size) (_ : y.siz ≤ 4000000),
    Calls Tryd.prog 17 #[.agg #[.string y.w, .bool y.l, u]] w fun e w' => e = .returned (.int .i64 (y.siz : Nat)) ∧ Below w.heap.size w w') := fun y hy => Size_any y
  have hr' : Row w D ks u := hr
  clear hr
  show Calls Tryd.prog 17 #[.agg #[.string sw, .bool tl, u]] w fun e w' => e = .returned (.int .i64 ((Sx.mk sw tl ks).siz : Nat)) ∧ Below w.heap.size w w'
  obtain ⟨a, c, rfl, hget⟩ := row_get hr'
  cases tl
  · have hp : (Sx.mk sw false ks).siz = 1 := by simp [Sx.siz]
    rw [hp]
    clear hget hr' IH hp hlen
    go_enter Tryd.func17, Tryd.ntmps17
    go_wp2_with fail
    go_ret
    exact ⟨rfl, by go_grown⟩
  · have hp : (Sx.mk sw true ks).siz = 1 + sizs ks := by simp [Sx.siz]
    rw [hp] at hlen ⊢
    have hkl : ks.length ≤ sizs ks := by
      have key : ∀ l : List Sx, l.length ≤ sizs l := by
        intro l
        induction l with
        | nil => simp
        | cons y r ih =>
          have : 1 ≤ y.siz := by cases y with | mk _ tl _ => cases tl <;> simp [Sx.siz]
          simp only [List.length_cons, sizs]; omega
      exact key ks
    have HG : Hid _ := hget
    obtain ⟨N, hN⟩ : ∃ N, N = ks.length := ⟨_, rfl⟩
    have HN : Hid _ := hN
    have hN9 : N ≤ 4000000 := by omega
    rw [← hN]
    have HLEN : Hid _ := hlen
    clear hget hr' hp hlen hkl hN
    go_enter Tryd.func17, Tryd.ntmps17
    go_wp2_with fail
    go_loopw [3, 11] (fun s i wr => ∃ k : Nat, k ≤ N ∧ s = .int .i64 ((1 + sizs (ks.take k) : Nat) : Int) ∧ i = .int .i64 (k : Int) ∧ Hid (Below w.heap.size w wr)) (fun s i wr => N - (intOf i).toNat)
    case atStart => exact ⟨0, Nat.zero_le _, by simp [sizs], rfl, by unfold Hid; go_grown⟩
    case round =>
      obtain ⟨k, hk, rfl, rfl, hW⟩ := hrel
      have hsr : w.heap.size ≤ wr.heap.size := hW.out.size
      by_cases hlt : k < N
      · obtain ⟨y, hy⟩ : ∃ y, ks[k]? = some y := ⟨_, List.getElem?_eq_getElem (by rw [← HN.out]; exact hlt)⟩
        obtain ⟨g, o, uy, rfl, hDg, hgl, g0, g1, g2, hRy⟩ := HG.out k y hy
        have cc : ∀ i, wr.cell? ⟨g, i, none⟩ = w.cell? ⟨g, i, none⟩ := fun i => World.cell?_of_block (a := ⟨g, i, none⟩) (hW.out.block g (hD g hDg))
        have d0 : wr.cell? ⟨g, o + k * 3, none⟩ = some (.string y.w) := (cc _).trans g0
        have d1 : wr.cell? ⟨g, o + k * 3 + 1, none⟩ = some (.bool y.l) := (cc _).trans g1
        obtain ⟨ay, ny, cy, rfl⟩ := hRy.sl
        have d2 : wr.cell? ⟨g, o + k * 3 + 2, none⟩ = some (.slice ay ny cy) := (cc _).trans g2
        have hltI : (k : Int) < (N : Int) := by omega
        have hST := sizs_take hy
        have hSM := sizs_mono (ks := ks) (j := k + 1)
        rw [hST] at hSM
        have hY : y.siz ≤ 4000000 := by have := HLEN.out; omega
        have HSY : Hid _ := IH.out y (List.mem_of_getElem? hy) (row_low hRy hD (hW.out.alloc (by omega) (.cells #[.string y.w, .bool y.l, .slice ay ny cy] 35))) (fun g hg => by have := hD g hg; simp; omega) hY
        obtain ⟨S, hS⟩ : ∃ S : Nat, S = 1 + sizs (ks.take k) := ⟨_, rfl⟩
        obtain ⟨Y, hYe⟩ : ∃ Y : Nat, Y = y.siz := ⟨_, rfl⟩
        have HSS : Hid (1 + sizs (ks.take (k + 1)) = S + Y) := by unfold Hid; rw [hST, hS, hYe]; omega
        have hb1 : (S : Int) ≤ 4000001 := by have := HLEN.out; omega
        have hb2 : (Y : Int) ≤ 4000000 := by omega
        rw [← hS]
        rw [← hYe] at HSY
        clear hy g0 g1 g2 hRy cc hST hSM hY hS hYe
        go_wp2_with fail
        refine Calls.mono HSY.out ?_
        rintro e w2 ⟨rfl, hb3⟩
        go_wp2_with fail
        exact ⟨⟨k + 1, by omega, by rw [HSS.out]; rfl, rfl, (hW.out.alloc (by omega) _).trans (hb3.mono (by simp; omega))⟩, by simp [intOf]; omega⟩
      · obtain rfl : k = N := by omega
        have htk : ks.take k = ks := by rw [HN.out]; exact List.take_length
        rw [htk]
        go_wp2_with fail
        go_ret
        exact ⟨rfl, hW.out⟩
termination_by SizeOf.sizeOf x
decreasing_by
  simp_wf
  have := List.sizeOf_lt_of_mem hy
  omega
end Go.Proofs.YtikdjloedeinhaaDoor
