/- Contracts (traces): put. -/
import Derived.Test.YthdgmkjjpmigeaaTR7
namespace Go.Proofs.Ythdgmkjjpmigeaa
open Go.RowKit
set_option linter.unusedSimpArgs false
set_option linter.unusedVariables false

/-- v owns these bytes. -/
structure Bs (w : World) (B : Nat) (v : Value) (l : List Int) : Prop where
  row : w.ownsRow B 5 1 v l.length (l.map (Value.int .u8))
  byte : byts l
theorem Bs.br {w : World} {B : Nat} {v : Value} {l : List Int} (h : Bs w B v l) : Br w v l := by
  refine ⟨?_, h.byte⟩
  rcases h.row.2 with ⟨e, h0⟩ | ⟨g, cap, cur, e, hb, hg, hc, hm, hs, ht⟩
  · exact ⟨none, 0, by rw [e, h0], by omega, Or.inl (List.eq_nil_of_length_eq_zero h0)⟩
  · refine ⟨_, cap, e, hc, ?_⟩
    by_cases hl : l = []
    · exact Or.inl hl
    · refine Or.inr ⟨g, 0, rfl, (Array.getElem?_eq_some_iff.1 hg).1, fun j hj => ?_⟩
      have e2 : (l.map (Value.int .u8))[j]? = some (.int .u8 (l.getD j 0)) := by
        rw [List.getElem?_map, List.getElem?_eq_getElem hj, List.getD_eq_getElem?_getD, List.getElem?_eq_getElem hj]; rfl
      rw [← ht, List.getElem?_take_of_lt (by omega)] at e2
      rw [Nat.zero_add]
      exact cell_of hg _ (by simpa using e2)
/-- A number as four bytes. -/
def be4 (n : Nat) : List Int := [((n / 16777216 % 256 : Nat) : Int), ((n / 65536 % 256 : Nat) : Int), ((n / 256 % 256 : Nat) : Int), ((n % 256 : Nat) : Int)]
theorem be4_byts (n : Nat) : byts (be4 n) := fun x hx => by
  simp only [be4, List.mem_cons, List.not_mem_nil, or_false] at hx
  omega
theorem byts_app {l m : List Int} (h : byts l) (h' : byts m) : byts (l ++ m) := fun x hx => by
  rcases List.mem_append.1 hx with e | e
  · exact h x e
  · exact h' x e
theorem be4_take (n : Nat) {k : Nat} {x : Int} (h : (be4 n)[k]? = some x) : (be4 n).take (k + 1) = (be4 n).take k ++ [x] := by rw [List.take_add_one, h]; rfl
theorem Bs.snoc {w2 : World} {B : Nat} {v' : Value} {l : List Int} {m : Nat} {x : Int} (hm : m = l.length) (hl : byts l) (hx : 0 ≤ x ∧ x < 256) (hrow : w2.ownsRow B 5 1 v' (m + 1) (l.map (Value.int .u8) ++ [.int .u8 x])) : Bs w2 B v' (l ++ [x]) := by
  refine ⟨?_, byts_app hl fun y hy => by rw [List.mem_singleton.1 hy]; exact hx⟩
  rw [List.map_append, List.length_append, ← hm]
  exact hrow
/-- Only v's own row has turned since; q lies there, or in a new block. -/
structure Gw (w wr : World) (v q : Value) : Prop where
  grown : w.grownBy wr v.ownBlock
  at' : q.ownBlock = v.ownBlock ∨ ∃ b, q.ownBlock = some b ∧ w.heap.size ≤ b
theorem Gw.refl (w : World) (v : Value) : Gw w w v v := ⟨⟨rfl, rfl, rfl, Nat.le_refl _, fun _ _ _ => rfl⟩, Or.inl rfl⟩
theorem Gw.step {w wr w4 : World} {v q v4 : Value} {o : Obj} (h : Gw w wr v q) (hg : (wr.alloc o).grownBy w4 q.ownBlock) (hat : v4.ownBlock = q.ownBlock ∨ v4.ownBlock = some (wr.alloc o).heap.size) : Gw w w4 v v4 := by
  have hg' := grown_of hg
  have hs := h.grown.size
  refine ⟨⟨hg'.os.trans h.grown.os, hg'.tape.trans h.grown.tape, hg'.output.trans h.grown.output, Nat.le_trans hs hg'.size, fun k hk hn => (hg'.block k (by omega) fun e => ?_).trans (h.grown.block k hk hn)⟩, ?_⟩
  · rcases h.at' with e2 | ⟨b, e2, hb⟩
    · exact hn (e.trans e2)
    · rw [e2] at e; injection e with e; omega
  · rcases hat with e | e
    · rw [e]; exact h.at'
    · exact Or.inr ⟨_, e, by rw [size_alloc']; omega⟩
theorem Gw.below {w wr : World} {v q : Value} {B : Nat} (h : Gw w wr v q) (hv : ∀ k, v.ownBlock = some k → B ≤ k) (hB : B ≤ w.heap.size) : Below B w wr :=
  ⟨h.grown.os, h.grown.tape, h.grown.output, h.grown.size, fun k hk => h.grown.block k (by omega) fun e => by have := hv k e.symm; omega⟩
theorem Bs.last {w : World} {B : Nat} {v : Value} {l : List Int} {x y : Int} (h : Bs w B v (l ++ [x])) (e : x = y) : Bs w B v (l ++ [y]) := e ▸ h
set_option maxRecDepth 20000 in
set_option maxHeartbeats 6400000 in
theorem put_any {w : World} {B : Nat} {v : Value} {l : List Int} (h : Bs w B v l) (hB : B ≤ w.heap.size) (hl : l.length ≤ 100000) {n : Nat} (hn : n ≤ 2147483647) :
    Calls Try.prog 36 #[v, .int .i64 (n : Int)] w fun ev w' => ∃ v', ev = .returned v' ∧ Bs w' B v' (l ++ be4 n) ∧ Gw w w' v v' := by
  obtain ⟨ti, ht0, hz0, hz1, hz2⟩ := info_any infoByte
  have HI : Hid _ := (⟨ht0, hz0, hz1, hz2⟩ : Try.prog.info? 5 = some ti ∧ ti.zero = _ ∧ ti.size = 1 ∧ ti.bytes = 1)
  clear ht0 hz0 hz1 hz2
  have HL : Hid (l.length ≤ 100000) := hl
  have H0 : Hid (Bs w B v l) := h
  clear h hl
  go_enter Try.func36, Try.ntmps36
  go_wp2_with fail
  go_loopw [0, 6] (fun q i wr => ∃ k : Nat, k ≤ 4 ∧ i = .int .i64 (k : Int) ∧ Hid (Bs wr B q (l ++ (be4 n).take k) ∧ Gw w wr v q)) (fun q i wr => 4 - (intOf i).toNat)
  case atStart => exact ⟨0, by decide, rfl, by rw [List.take_zero, List.append_nil]; exact H0.out, Gw.refl _ _⟩
  case round =>
    obtain ⟨k, hk, rfl, hH⟩ := hrel
    obtain ⟨q, hqq⟩ : ∃ q, q = u0 := ⟨_, rfl⟩
    rw [← hqq] at hH ⊢
    clear hqq
    obtain ⟨m, hm⟩ : ∃ m, m = (l ++ (be4 n).take k).length := ⟨_, rfl⟩
    have hmb : m ≤ 100010 := by
      rw [hm, List.length_append, List.length_take]; have := HL.out; omega
    have HM : Hid _ := hm
    have hrow := hH.out.1.row
    rw [← hm] at hrow
    have hz : B ≤ wr.heap.size := by have := hH.out.2.grown.size; omega
    have HROW : Hid _ := hrow
    clear hm
    rcases (by omega : k = 0 ∨ k = 1 ∨ k = 2 ∨ k = 3 ∨ k = 4) with e | e | e | e | e
    · subst e
      go_wp2_with (at_builtin; refine wpList_append_own_at _ rfl _ _ 23 rfl B 5 ti (.int .u8 0) 1 1 bytesUnder HI.out.1 HI.out.2.1 HI.out.2.2.1 HI.out.2.2.2 rfl (by decide) q m _ rfl (row_kept hrow (fun _ hq => heap_alloc_old _ _ hq)) ⟨wr.heap.size, 0, none⟩ 1 1 [_] rfl rfl (cell_one_new _ _ _) (by intro y hy; rw [List.mem_singleton.1 hy]; rfl) (by unfold maxLen; omega) (by omega) (by rw [size_alloc']; omega) ?_; intro v4 w4 hown hgrow hnil hat)
      have hG := Bs.snoc HM.out hH.out.1.byte (by first | omega | (simp [IntKind.wrap, IntKind.signed, IntKind.bits]; omega)) hown
      have hb4 : Gw w w4 v v4 := hH.out.2.step hgrow hat
      refine ⟨⟨1, by decide, rfl, ?_, hb4⟩, by simp [intOf]⟩
      rw [be4_take n (k := 0) rfl, ← List.append_assoc]
      exact hG.last (by omega)
    · subst e
      go_wp2_with (at_builtin; refine wpList_append_own_at _ rfl _ _ 23 rfl B 5 ti (.int .u8 0) 1 1 bytesUnder HI.out.1 HI.out.2.1 HI.out.2.2.1 HI.out.2.2.2 rfl (by decide) q m _ rfl (row_kept hrow (fun _ hq => heap_alloc_old _ _ hq)) ⟨wr.heap.size, 0, none⟩ 1 1 [_] rfl rfl (cell_one_new _ _ _) (by intro y hy; rw [List.mem_singleton.1 hy]; rfl) (by unfold maxLen; omega) (by omega) (by rw [size_alloc']; omega) ?_; intro v4 w4 hown hgrow hnil hat)
      have hG := Bs.snoc HM.out hH.out.1.byte (by first | omega | (simp [IntKind.wrap, IntKind.signed, IntKind.bits]; omega)) hown
      have hb4 : Gw w w4 v v4 := hH.out.2.step hgrow hat
      refine ⟨⟨2, by decide, rfl, ?_, hb4⟩, by simp [intOf]⟩
      rw [be4_take n (k := 1) rfl, ← List.append_assoc]
      exact hG.last (by omega)
    · subst e
      go_wp2_with (at_builtin; refine wpList_append_own_at _ rfl _ _ 23 rfl B 5 ti (.int .u8 0) 1 1 bytesUnder HI.out.1 HI.out.2.1 HI.out.2.2.1 HI.out.2.2.2 rfl (by decide) q m _ rfl (row_kept hrow (fun _ hq => heap_alloc_old _ _ hq)) ⟨wr.heap.size, 0, none⟩ 1 1 [_] rfl rfl (cell_one_new _ _ _) (by intro y hy; rw [List.mem_singleton.1 hy]; rfl) (by unfold maxLen; omega) (by omega) (by rw [size_alloc']; omega) ?_; intro v4 w4 hown hgrow hnil hat)
      have hG := Bs.snoc HM.out hH.out.1.byte (by first | omega | (simp [IntKind.wrap, IntKind.signed, IntKind.bits]; omega)) hown
      have hb4 : Gw w w4 v v4 := hH.out.2.step hgrow hat
      refine ⟨⟨3, by decide, rfl, ?_, hb4⟩, by simp [intOf]⟩
      rw [be4_take n (k := 2) rfl, ← List.append_assoc]
      exact hG.last (by omega)
    · subst e
      go_wp2_with (at_builtin; refine wpList_append_own_at _ rfl _ _ 23 rfl B 5 ti (.int .u8 0) 1 1 bytesUnder HI.out.1 HI.out.2.1 HI.out.2.2.1 HI.out.2.2.2 rfl (by decide) q m _ rfl (row_kept hrow (fun _ hq => heap_alloc_old _ _ hq)) ⟨wr.heap.size, 0, none⟩ 1 1 [_] rfl rfl (cell_one_new _ _ _) (by intro y hy; rw [List.mem_singleton.1 hy]; rfl) (by unfold maxLen; omega) (by omega) (by rw [size_alloc']; omega) ?_; intro v4 w4 hown hgrow hnil hat)
      have hG := Bs.snoc HM.out hH.out.1.byte (by first | omega | (simp [IntKind.wrap, IntKind.signed, IntKind.bits]; omega)) hown
      have hb4 : Gw w w4 v v4 := hH.out.2.step hgrow hat
      refine ⟨⟨4, by decide, rfl, ?_, hb4⟩, by simp [intOf]⟩
      rw [be4_take n (k := 3) rfl, ← List.append_assoc]
      exact hG.last (by omega)
    · subst e
      have H4 : Hid (Bs wr B q (l ++ be4 n)) := hH.out.1
      go_wp2_with fail
      go_ret
      exact ⟨_, rfl, H4.out, hH.out.2⟩
end Go.Proofs.Ythdgmkjjpmigeaa
