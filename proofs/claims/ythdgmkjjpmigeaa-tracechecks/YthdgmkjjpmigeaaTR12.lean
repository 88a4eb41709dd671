/- Contracts (traces): sorted. -/
import Derived.Test.YthdgmkjjpmigeaaTR11
import Derived.Test.YthdgmkjjpmigeaaCNS
import Derived.Lib.OwnBridge
import Derived.Sort.Grow
namespace Go.Proofs.Ythdgmkjjpmigeaa
open Go.RowKit Go.Sort

theorem sort_any {wx : World} {B : Nat} {u : Value} {L : List Int} (h : Is' wx B u L) (hl : L.length ≤ 100000000) :
    Calls Try.prog 59 #[u] wx fun ev w' => ev = .returned (.tuple #[]) ∧ Is' w' B u (L.mergeSort fun x y => decide (x ≤ y)) ∧ Below B wx w' := by
  have hlm : (L.mergeSort fun x y => decide (x ≤ y)).length = L.length := List.length_mergeSort L
  by_cases hu : u = .slice none 0 0
  · subst hu
    have h0 : L = [] := by
      rcases h.2 with ⟨-, h0⟩ | ⟨g, cap, cur, e, -⟩
      · exact List.eq_nil_of_length_eq_zero h0
      · cases e
    subst h0
    refine (Try.slices_Sort_int_none none 0 wx).mono ?_
    rintro e w' ⟨rfl, rfl⟩
    exact ⟨rfl, by rw [List.mergeSort_nil]; exact h, Below.refl _ _⟩
  · obtain ⟨g, cap, rfl, hB, hg, hc, hm, hz, hH⟩ := Lib.holds_of_ownsRow (zs := L) h hu
    refine (Try.slices_Sort_int g 0 cap L wx hH hg (by omega)).mono ?_
    rintro e w' ⟨rfl, n, os, rfl⟩
    have h1 := Lib.ownsRow_putRow (q := n) (k := L.length) (ys := L.mergeSort fun x y => decide (x ≤ y)) h hlm (Nat.le_refl _)
    rw [List.take_of_length_le (by rw [hlm]; exact Nat.le_refl _)] at h1
    refine ⟨rfl, ?_, ?_⟩
    · unfold Is'
      rw [hlm]
      exact row_own h1 (fun q hq => heap_grow_old _ _ (h1.lt q hq).2)
    · have h2 : Below B wx (putRow (Value.int .i64) (Sort.ahead wx n) g 0 (L.mergeSort fun x y => decide (x ≤ y)).toArray) := Lib.below_putRow (Below.refl _ _) hB
      exact ⟨h2.os, h2.tape, h2.output, Nat.le_trans h2.size (by simp [grow]), fun q hq => (heap_grow_old _ _ (by have := h2.size; have := h.lt g rfl; omega)).trans (h2.block q hq)⟩
def insZ (x : Int) : List Int → List Int
  | [] => [x]
  | y :: r => if y < x then y :: insZ x r else if y = x then y :: r else x :: y :: r
def setF (c : List Int) : List Int := c.foldl (fun a x => insZ x a) []
theorem insZ_mem {x y : Int} : ∀ {l : List Int}, y ∈ insZ x l ↔ y = x ∨ y ∈ l
  | [] => by simp [insZ]
  | z :: r => by
    unfold insZ
    split
    · rw [List.mem_cons, insZ_mem, List.mem_cons]
      constructor
      · rintro (e | e | e)
        · exact Or.inr (Or.inl e)
        · exact Or.inl e
        · exact Or.inr (Or.inr e)
      · rintro (e | e | e)
        · exact Or.inr (Or.inl e)
        · exact Or.inl e
        · exact Or.inr (Or.inr e)
    · split
      · next e =>
        subst e
        simp
      · simp
theorem insZ_up {x : Int} : ∀ {l : List Int}, l.Pairwise (· < ·) → (insZ x l).Pairwise (· < ·)
  | [], _ => by simp [insZ]
  | z :: r, h => by
    obtain ⟨h1, h2⟩ := List.pairwise_cons.1 h
    unfold insZ
    split
    · next hlt =>
      refine List.pairwise_cons.2 ⟨fun y hy => ?_, insZ_up h2⟩
      rcases insZ_mem.1 hy with e | e
      · omega
      · exact h1 y e
    · split
      · exact h
      · refine List.pairwise_cons.2 ⟨fun y hy => ?_, h⟩
        rcases List.mem_cons.1 hy with e | e
        · omega
        · have := h1 y e; omega
theorem insZ_len {x : Int} : ∀ {l : List Int}, x ∉ l → (insZ x l).length = l.length + 1
  | [], _ => rfl
  | z :: r, h => by
    unfold insZ
    split
    · rw [List.length_cons, insZ_len (fun e => h (List.mem_cons_of_mem _ e))]; rfl
    · split
      · next e => exact absurd (by rw [e]; exact List.mem_cons_self) h
      · rfl
theorem insZ_at {x : Int} : ∀ {k : Nat} {l : List Int}, (∀ j y, j < k → l[j]? = some y → y < x) → k ≤ l.length → (∀ y, l[k]? = some y → ¬ y < x) → insZ x l = if l[k]? = some x then l else l.take k ++ x :: l.drop k
  | 0, [], _, _, _ => by simp [insZ]
  | 0, z :: r, _, _, h3 => by
    have := h3 z rfl
    unfold insZ
    rw [if_neg this]
    by_cases e : z = x
    · rw [if_pos e, if_pos (by simp [e])]
    · rw [if_neg e, if_neg (by simp [e])]; rfl
  | k + 1, [], _, h2, _ => by simp at h2
  | k + 1, z :: r, h1, h2, h3 => by
    have hz := h1 0 z (by omega) rfl
    have ih := insZ_at (x := x) (k := k) (l := r) (fun j y hj hy => h1 (j + 1) y (by omega) (by simpa using hy)) (by simpa using h2) (fun y hy => h3 y (by simpa using hy))
    unfold insZ
    rw [if_pos hz, ih]
    by_cases e : r[k]? = some x
    · rw [if_pos e, if_pos (by simpa using e)]
    · rw [if_neg e, if_neg (by simpa using e)]; rfl
theorem setF_snoc {c : List Int} {k : Nat} {x : Int} (h : c[k]? = some x) : setF (c.take (k + 1)) = insZ x (setF (c.take k)) := by
  unfold setF
  rw [List.take_add_one, h, List.foldl_append]
  rfl
theorem fold_mem {y : Int} : ∀ {c a : List Int}, y ∈ c.foldl (fun a x => insZ x a) a ↔ y ∈ c ∨ y ∈ a
  | [], a => by simp
  | x :: r, a => by
    rw [List.foldl_cons, fold_mem, insZ_mem, List.mem_cons]
    constructor
    · rintro (e | e | e)
      · exact Or.inl (Or.inr e)
      · exact Or.inl (Or.inl e)
      · exact Or.inr e
    · rintro ((e | e) | e)
      · exact Or.inr (Or.inl e)
      · exact Or.inl e
      · exact Or.inr (Or.inr e)
theorem setF_mem {c : List Int} {y : Int} : y ∈ setF c ↔ y ∈ c := by
  unfold setF
  rw [fold_mem]
  simp
theorem fold_up : ∀ {c a : List Int}, a.Pairwise (· < ·) → (c.foldl (fun a x => insZ x a) a).Pairwise (· < ·)
  | [], _, h => h
  | x :: r, a, h => by
    rw [List.foldl_cons]
    exact fold_up (insZ_up h)
theorem setF_up (c : List Int) : (setF c).Pairwise (· < ·) := fold_up List.Pairwise.nil
theorem fold_len : ∀ {c a : List Int}, c.Nodup → (∀ y ∈ c, y ∉ a) → (c.foldl (fun a x => insZ x a) a).length = c.length + a.length
  | [], a, _, _ => by simp
  | x :: r, a, h, hd => by
    obtain ⟨h1, h2⟩ := List.nodup_cons.1 h
    rw [List.foldl_cons, fold_len h2 (fun y hy e => by
      rcases insZ_mem.1 e with e | e
      · exact h1 (by rw [← e]; exact hy)
      · exact hd y (List.mem_cons_of_mem _ hy) e), insZ_len (hd x List.mem_cons_self), List.length_cons]
    omega
theorem setF_len {c : List Int} (h : c.Nodup) : (setF c).length = c.length := by
  unfold setF
  rw [fold_len h (fun y _ e => by cases e)]
  rfl
theorem insZ_le {x : Int} : ∀ {l : List Int}, (insZ x l).length ≤ l.length + 1
  | [] => Nat.le_refl _
  | z :: r => by
    unfold insZ
    split
    · have := insZ_le (x := x) (l := r); simp; omega
    · split <;> simp
/-- A list with a place at j. -/
theorem up_ext : ∀ {l m : List Int}, l.Pairwise (· < ·) → m.Pairwise (· < ·) → (∀ x, x ∈ l ↔ x ∈ m) → l = m
  | [], [], _, _, _ => rfl
  | [], y :: m, _, _, h => absurd ((h y).2 (List.mem_cons_self ..)) (by simp)
  | x :: l, [], _, _, h => absurd ((h x).1 (List.mem_cons_self ..)) (by simp)
  | x :: l, y :: m, hl, hm, h => by
    rw [List.pairwise_cons] at hl hm
    have e : x = y := by
      rcases List.mem_cons.1 ((h x).1 (List.mem_cons_self ..)) with h1 | h1
      · exact h1
      · rcases List.mem_cons.1 ((h y).2 (List.mem_cons_self ..)) with h2 | h2
        · exact h2.symm
        · have := hm.1 x h1; have := hl.1 y h2; omega
    subst e
    rw [up_ext hl.2 hm.2 fun z => ?_]
    constructor
    · intro hz
      rcases List.mem_cons.1 ((h z).1 (List.mem_cons_of_mem _ hz)) with h1 | h1
      · have := hl.1 z hz; omega
      · exact h1
    · intro hz
      rcases List.mem_cons.1 ((h z).2 (List.mem_cons_of_mem _ hz)) with h1 | h1
      · have := hm.1 z hz; omega
      · exact h1
/-- What the document's Set gives. -/
theorem setF_same {l m : List Int} (h : ∀ x, x ∈ l ↔ x ∈ m) : setF l = setF m := up_ext (setF_up l) (setF_up m) fun x => by rw [setF_mem, setF_mem]; exact h x

theorem sorted_up {L : List Int} (hn : L.Nodup) : L.mergeSort (fun x y => decide (x ≤ y)) = setF L := by
  have hp := List.mergeSort_perm L fun x y => decide (x ≤ y)
  have hs := List.pairwise_mergeSort (le := fun x y : Int => decide (x ≤ y)) (fun a b c h1 h2 => by simp at *; omega) (fun a b => by simp; omega) L
  refine up_ext ?_ (setF_up L) fun x => by rw [hp.mem_iff, setF_mem]
  have hn2 : (L.mergeSort fun x y => decide (x ≤ y)).Nodup := hp.nodup_iff.2 hn
  exact (hs.and hn2).imp fun {a b} h => by
    have h1 : a ≤ b := by simpa using h.1
    have h2 : a ≠ b := h.2
    omega
theorem made_ints (w : World) {z : Nat} (hz : z ≤ 100000000) : (Instr.makeSlice 51 (.int .i64 0) (.int .i64 (z : Int))).run Try.prog w = .ok (.slice (some ⟨w.heap.size, 0, none⟩) 0 z) (w.alloc (.cells (madeCells #[.int .i64 0] z) 3)) := by
  obtain ⟨i, hi, hz0, hz1, hz2⟩ := info_any infoInt
  have := run_make (P := Try.prog) w 51 3 i _ underInts hi hz0 .i64 .i64 0 z (by omega) (by omega) (by rw [hz2]; omega) (by omega)
  simp only [Int.toNat_zero, Int.toNat_natCast, hz1, Nat.mul_one] at this
  exact this
theorem Is'.room (w : World) {z : Nat} (hz : z ≤ 100000000) : Is' (w.alloc (.cells (madeCells #[.int .i64 0] z) 3)) w.heap.size (.slice (some ⟨w.heap.size, 0, none⟩) 0 z) [] := by
  obtain ⟨c, h1, h2, h3⟩ := World.rowIs_made w (.int .i64 0) z 3
  exact ⟨rfl, Or.inr ⟨w.heap.size, z, c, rfl, Nat.le_refl _, h1, Nat.zero_le _, by unfold maxLen; omega, by omega, by simp⟩⟩
theorem invK (key : Value) (kl : Lit) (h : keyOf Try.prog 3 key = some kl) : ∃ x : Int, key = .int .i64 x := by
  obtain ⟨x, e, -⟩ := Maps.keyOf_int_inv intUnder h
  exact ⟨x, e⟩
theorem invV (v : Value) (y : DataW Unit × List MemPlace) (h : unitElem v = some y) : ∃ _ : Unit, v = .agg #[] := ⟨(), (unitElem_inv h).1⟩
theorem key_of {x : Int} {kl : Lit} (h : keyOf Try.prog 3 (.int .i64 x) = some kl) : kl = .int .i64 x ∧ w64 x := by
  obtain ⟨x', e, e2, e3⟩ := Maps.keyOf_int_inv intUnder h
  injection e with _ e
  subst e
  refine ⟨e2, ?_⟩
  simp [Lit.wf, IntKind.min, IntKind.max, IntKind.signed, IntKind.bits] at e3
  unfold w64
  omega
theorem same_int (x y : Int) : (Lit.int .i64 y).sameKey (.int .i64 x) = decide (y = x) := by
  by_cases e : y = x
  · subst e; rw [WideAt.sameKey_self (show WideAt.IsKeyLit (.int .i64 y) from trivial)]; simp
  · rw [decide_eq_false e]
    cases h : (Lit.int .i64 y).sameKey (.int .i64 x) with
    | false => rfl
    | true => exact absurd (WideAt.sameKey_eq h) (fun e2 => e (by injection e2))
/-- What the range has gathered. -/
structure Got (w wr : World) (b r : Nat) (D : DataW Unit) (S : Int → Bool) (left : Lit → Bool) (cnt n : Nat) (q : Value) (L : List Int) : Prop where
  row : Is' wr w.heap.size q L
  nd : L.Nodup
  mem : ∀ x, x ∈ L ↔ (S x = true ∧ left (.int .i64 x) = false)
  bel : Below w.heap.size w wr
  len : L.length + cnt ≤ n
set_option maxRecDepth 20000 in
set_option maxHeartbeats 6400000 in
theorem sorted_any {w : World} {b n : Nat} {S : Int → Bool} (hM : Mk w b n S) (hn : n ≤ 10000000) :
    Calls Try.prog 56 #[.map (some b)] w fun ev w' => ∃ u L, ev = .returned u ∧ Is' w' w.heap.size u L ∧ L.Pairwise (· < ·) ∧ (∀ x, x ∈ L ↔ S x = true) ∧ Below w.heap.size w w' := by
  obtain ⟨ti, ht0, hz0, hz1, hz2⟩ := info_any infoInt
  have HI : Hid _ := (⟨ht0, hz0, hz1, hz2⟩ : Try.prog.info? 3 = some ti ∧ ti.zero = _ ∧ ti.size = 1 ∧ ti.bytes = 8)
  clear ht0 hz0 hz1 hz2
  have HW : Hid (∀ x, S x = true → w64 x) := hM.wf
  have hbw := hM.lt
  obtain ⟨D, hD, hDS⟩ := hM.ex
  have HDS : Hid _ := hDS
  obtain ⟨z, hz⟩ : ∃ z, z = Maps.size D := ⟨_, rfl⟩
  have hzn : z ≤ n := by rw [hz]; exact hD.size_le
  have HZ : Hid _ := hz
  have HZN : Hid (z ≤ n) := hzn
  have hmk := made_ints w (z := z) (by omega)
  have HR0 : Hid _ := Is'.room w (z := z) (by omega)
  obtain ⟨w1, hw1⟩ : ∃ w1, w1 = w.alloc (.cells (madeCells #[.int .i64 0] z) 3) := ⟨_, rfl⟩
  have hD1 : w1.ownsMap Try.prog 3 (unitElem (H := Unit)) b n D := by rw [hw1]; exact hD.alloc _
  have hb1 : Below w.heap.size w w1 := by rw [hw1]; go_grown
  rw [← hw1] at hmk HR0
  rw [hz] at hmk HR0
  clear hz
  have HB1 : Hid (Below w.heap.size w w1) := hb1
  clear hM hDS hw1 hb1 hzn
  go_enter Try.func56, Try.ntmps56
  go_wp2_with (first | (at_len; refine wpList_len_own _ rfl _ 83 rfl 3 89 litUnder _ b n D rfl hD ?_) | (at_range; refine wpList_range_own _ rfl _ 83 rfl 3 89 intLaw litUnder _ b n D rfl hD1 ?_; intro w2 hrg2 hg2 hs2) | go_in)
  try go_frame
  have HRG2 : Hid (w2.ranges Try.prog 3 (unitElem (H := Unit)) b w1.heap.size n D (Maps.has D) (Maps.size D)) := hrg2
  have HG2 : Hid (w1.grownBy w2 none ∧ w2.heap.size = w1.heap.size + 1) := ⟨hg2, hs2⟩
  obtain ⟨r, hr⟩ : ∃ r, r = w1.heap.size := ⟨_, rfl⟩
  rw [← hr] at HRG2 ⊢
  have HR : Hid _ := hr
  clear hrg2 hg2 hs2 hr hmk hD hD1
  go_loopw [3] (fun q wr => ∃ (left : Lit → Bool) (cnt : Nat) (L : List Int), Hid (wr.ranges Try.prog 3 (unitElem (H := Unit)) b r n D left cnt) ∧ Hid (Got w wr b r D S left cnt n q L)) (fun _ wr => wr.rangeLeft b r)
  case atStart => 
    refine ⟨_, _, [], HRG2.out, ⟨row_kept HR0.out (fun k hk => HG2.out.1.block k hk (by simp)), List.nodup_nil, fun x => ⟨fun h => (nomatch h), fun h => ?_⟩, ⟨HG2.out.1.os.trans HB1.out.os, HG2.out.1.tape.trans HB1.out.tape, HG2.out.1.output.trans HB1.out.output, Nat.le_trans HB1.out.size HG2.out.1.size, fun q hq => (HG2.out.1.block q (Nat.lt_of_lt_of_le hq HB1.out.size) (by simp)).trans (HB1.out.block q hq)⟩, by rw [← HZ.out]; have := HZN.out; simp; omega⟩⟩
    rw [HDS.out x (HW.out x h.1), h.1] at h
    exact absurd h.2 (by simp)
  case round =>
    obtain ⟨left, cnt, L, HRG, HGT⟩ := hrel
    obtain ⟨q, hqq⟩ : ∃ q, q = u3 := ⟨_, rfl⟩
    rw [← hqq] at HGT ⊢
    clear hqq
    have hrg := HRG.out
    go_wp2_with (first | (at_next; refine wpList_next_ranges _ rfl _ rfl 3 intLaw (unitElem (H := Unit)) (fun x : Int => .int .i64 x) (fun _ : Unit => .agg #[]) invK invV b r n _ _ _ rfl hrg ?_ ?_) | go_in)
    · intro _ hl0
      have HSO : Hid _ := sort_any HGT.out.row (by have := HGT.out.len; omega)
      have HL : Hid (∀ x, x ∈ L ↔ S x = true) := fun x => by rw [HGT.out.mem x, hl0]; simp
      rw [sorted_up HGT.out.nd] at HSO
      clear hl0 hrg
      go_wp2_with fail
      refine Calls.mono HSO.out ?_
      rintro ev w4 ⟨rfl, hI4, hb4⟩
      have HI4 : Hid (Is' w4 w.heap.size q (setF L) ∧ Below w.heap.size w w4) := ⟨hI4, HGT.out.bel.trans hb4⟩
      clear hI4 hb4 HSO
      go_wp2_with fail
      go_ret
      exact ⟨_, setF L, rfl, HI4.out.1, setF_up L, fun x => by rw [setF_mem]; exact HL.out x, HI4.out.2⟩
    · intro x kl yd yp w3 cnt3 hkey hlk hv hat hrg3 hlt hgr hsz hen
      obtain ⟨e1, hw64⟩ := key_of hkey
      subst e1
      have hSx : S x = true := by rw [← HDS.out x hw64]; exact Maps.has_true_of_atKey hat
      have hne : ∀ k, q.ownBlock = some k → k ≠ r := fun k hk e => by
        subst e
        obtain ⟨cur, h1⟩ := row_cur HGT.out.row hk
        obtain ⟨_, _, _, _, _, _, _, _, _, h2, _⟩ := hrg
        rw [h1] at h2; cases h2
      have hneb : ∀ k, q.ownBlock = some k → k ≠ b := fun k hk e => by
        subst e
        obtain ⟨cur, h1⟩ := row_cur HGT.out.row hk
        obtain ⟨_, _, _, _, _, h2, _⟩ := hrg
        rw [h1] at h2; cases h2
      have HRR : Hid (w.heap.size ≤ r) := by unfold Hid; rw [HR.out]; exact HB1.out.size
      have HI3 : Hid (Is' w3 w.heap.size q L) := row_own HGT.out.row fun k hk => hgr.block k (World.ownsRow.lt HGT.out.row k hk).2 fun e => hne k hk (by injection e)
      have HB3 : Hid (Below w.heap.size w w3) := ⟨hgr.os.trans HGT.out.bel.os, hgr.tape.trans HGT.out.bel.tape, hgr.output.trans HGT.out.bel.output, Nat.le_trans HGT.out.bel.size hgr.size, fun k hk => (hgr.block k (Nat.lt_of_lt_of_le hk HGT.out.bel.size) fun e => by have := HRR.out; injection e with e; omega).trans (HGT.out.bel.block k hk)⟩
      have HRG3 : Hid (w3.ranges Try.prog 3 (unitElem (H := Unit)) b r n D (fun z => left z && !z.sameKey (.int .i64 x)) cnt3) := hrg3
      have HNE : Hid ((∀ k, q.ownBlock = some k → k ≠ r) ∧ ∀ k, q.ownBlock = some k → k ≠ b) := ⟨hne, hneb⟩
      have HXX : Hid (S x = true ∧ left (.int .i64 x) = true ∧ cnt3 < cnt) := ⟨hSx, hlk, hlt⟩
      obtain ⟨m, hm⟩ : ∃ m, m = L.length := ⟨_, rfl⟩
      have hmb : m ≤ 10000000 := by have := HGT.out.len; omega
      have HM : Hid _ := hm
      have hrow : w3.ownsRow w.heap.size 3 1 q m (L.map (Value.int .i64)) := by rw [hm]; exact HI3.out
      have HROW : Hid (w3.ownsRow w.heap.size 3 1 q m (L.map (Value.int .i64))) := hrow
      have hz3 := HB3.out.size
      have HLE : Hid (wr.rangeLeft b r = cnt) := hrg.left_eq
      clear hkey hlk hv hat hrg3 hlt hgr hsz hrg hSx hne hneb hm hrow hw64
      go_wp2_with (at_builtin; refine wpList_append_own_at _ rfl _ _ 51 rfl w.heap.size 3 ti (.int .i64 0) 1 8 underInts HI.out.1 HI.out.2.1 HI.out.2.2.1 HI.out.2.2.2 rfl (by decide) q m _ rfl (row_kept HROW.out (fun _ hq => heap_alloc_old _ _ hq)) ⟨w3.heap.size, 0, none⟩ 1 1 [.int .i64 x] rfl rfl (cell_one_new _ _ _) (by intro y hy; rw [List.mem_singleton.1 hy]; rfl) (by unfold maxLen; omega) (by omega) (by rw [size_alloc']; omega) ?_; intro v4 w4 hown hgrow hnil hat)
      have hrg4 := (HRG3.out.alloc _).kept hgrow (fun e => HNE.out.2 b e.symm rfl) (fun e => HNE.out.1 r e.symm rfl)
      refine ⟨⟨_, cnt3, L ++ [x], hrg4, ⟨?_, ?_, fun y => ?_, low_grown HB3.out (by omega) hgrow (fun k e => (World.ownsRow.lt HROW.out k e).1), ?_⟩⟩, ?_⟩
      · exact is_app (m := [x]) hown HM.out
      · rw [List.nodup_append]
        refine ⟨HGT.out.nd, by simp, fun a ha c hc e => ?_⟩
        rw [List.mem_singleton.1 hc] at e
        subst e
        have := (HGT.out.mem a).1 ha
        rw [HXX.out.2.1] at this
        exact absurd this.2 (by simp)
      · rw [List.mem_append, HGT.out.mem y, List.mem_singleton, same_int]
        by_cases e : y = x
        · subst e; simp [HXX.out.1]
        · simp [e]
      · have := HGT.out.len; have := HXX.out.2.2; rw [List.length_append]; simp; omega
      · rw [hrg4.left_eq, HLE.out]; exact HXX.out.2.2
end Go.Proofs.Ythdgmkjjpmigeaa
