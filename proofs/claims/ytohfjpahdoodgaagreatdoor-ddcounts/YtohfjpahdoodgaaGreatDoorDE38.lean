/- The laws' world: letting go. -/
import Derived.Test.YtohfjpahdoodgaaGreatDoorMg25
namespace Go.Proofs.YtohfjpahdoodgaaGreatDoor
open Go.RowKit
set_option linter.unusedSimpArgs false
set_option linter.unusedVariables false

theorem hcs_one {H : List HT} (h : ∀ p ∈ H, ∃ r l, p.2.1 = .slice r l l) : ∀ u, u ∈ hcs H → u.oneCell' = true := by
  intro u hu
  obtain ⟨p, hp, hq⟩ := List.mem_flatMap.1 hu
  obtain ⟨r, l, e⟩ := h p hp
  rw [e] at hq
  simp at hq
  rcases hq with rfl | rfl <;> rfl
theorem hcs_mt {H : List HT} {k : Nat} {u : Value} (h : u ∈ hcs (H.take k)) : u ∈ hcs H := by
  have e : hcs H = hcs (H.take k) ++ hcs (H.drop k) := by rw [← hcs_app, List.take_append_drop]
  rw [e]; exact List.mem_append_left _ h
theorem hcs_md {H : List HT} {k : Nat} {u : Value} (h : u ∈ hcs (H.drop k)) : u ∈ hcs H := by
  have e : hcs H = hcs (H.take k) ++ hcs (H.drop k) := by rw [← hcs_app, List.take_append_drop]
  rw [e]; exact List.mem_append_right _ h
theorem hcs_take {H : List HT} {k j : Nat} {u : Value} (h : (hcs (H.take k))[j]? = some u) : (hcs H)[j]? = some u := by
  have e : hcs H = hcs (H.take k) ++ hcs (H.drop k) := by rw [← hcs_app, List.take_append_drop]
  rw [e, List.getElem?_append_left (List.getElem?_eq_some_iff.1 h).1]
  exact h
theorem Hl.src {w x : World} {F : Nat → Prop} {B rl c k j : Nat} {H : List HT} {u : Value} (h : Hl w F B (.slice (some ⟨rl, 0, none⟩) H.length c) H) (hb : Below w.heap.size w x) (hj : (hcs (H.drop k))[j]? = some u) : x.cell? ((⟨rl, k * 2, none⟩ : Addr).add j) = some u := by
  have hjl := (List.getElem?_eq_some_iff.1 hj).1
  rw [hcs_len, List.length_drop] at hjl
  have e : hcs H = hcs (H.take k) ++ hcs (H.drop k) := by rw [← hcs_app, List.take_append_drop]
  have hl : (hcs (H.take k)).length = k * 2 := by rw [hcs_len, List.length_take]; omega
  have hg : (hcs H)[k * 2 + j]? = some u := by
    rw [e, List.getElem?_append_right (by omega), hl, show k * 2 + j - k * 2 = j by omega]
    exact hj
  rcases h.row.2 with ⟨e, -⟩ | ⟨r, cap, cur, e, hb', hgg, hc, hm, hs, ht⟩
  · cases e
  · injection e with e1 e2 e3
    injection e1 with e1
    injection e1 with e1
    subst e1
    rw [← ht, List.getElem?_take_of_lt (by omega)] at hg
    have := cell_of hgg (k * 2 + j) (by simpa using hg)
    have e4 : (⟨rl, k * 2, none⟩ : Addr).add j = ⟨rl, k * 2 + j, none⟩ := by simp [Addr.add]
    rw [e4, hb.cell (p := ⟨rl, k * 2 + j, none⟩) (blk_lt hgg)]
    exact this
theorem Hl.cap {w : World} {F : Nat → Prop} {B rl c : Nat} {H : List HT} (h : Hl w F B (.slice (some ⟨rl, 0, none⟩) H.length c) H) : H.length ≤ c := by
  rcases h.row.2 with ⟨e, -⟩ | ⟨r, cap, cur, e, hb', hgg, hc, hm, hs, ht⟩
  · cases e
  · injection e with e1 e2 e3
    omega
theorem w64_alive {vars most : Nat} {S : St} {f : Int} (h : alive S.ns f) (g : Mg vars most S) : w64 f := by
  have h1 := h.1
  have h2 := h.2.1
  have := g.len
  have := g.mo
  unfold w64
  omega
def outK (H : List HT) (k : Nat) : List HT := H.take k ++ H.drop (k + 1)
theorem outK_len {H : List HT} {k : Nat} (h : k < H.length) : (outK H k).length = H.length - 1 := by
  unfold outK; rw [List.length_append, List.length_take, List.length_drop]; omega
theorem outK_mem {H : List HT} {k : Nat} {p : HT} (h : p ∈ outK H k) : p ∈ H := by
  unfold outK at h
  rcases List.mem_append.1 h with q | q
  · exact List.mem_of_mem_take q
  · exact List.mem_of_mem_drop q
theorem outK_split {H : List HT} {k : Nat} {p : HT} (h : H[k]? = some p) : H = H.take k ++ p :: H.drop (k + 1) := by
  obtain ⟨hl, e⟩ := List.getElem?_eq_some_iff.1 h
  have := List.drop_eq_getElem_cons hl
  rw [e] at this
  rw [← this, List.take_append_drop]
theorem Pu.out {n : Nat} {S : St} {pn : Int → Int} {H : List HT} {k : Nat} {p : HT} (h : Pu n S pn H) (hk : 2 ≤ k) (hp : H[k]? = some p) :
    Pu n S (if 1 ≤ pn p.1 then pinA pn p.1 (pn p.1 - 1) else pn) (outK H k) ∧ unpE pn p.1 = 0 := by
  have hm := List.mem_of_getElem? hp
  have ha := (h.al p hm).1
  have hcnt : ∀ x, (H.map (·.1)).count x = ((outK H k).map (·.1)).count x + (if p.1 = x then 1 else 0) := fun x => by
    have e := outK_split hp
    have : (H.map (·.1)).count x = ((H.take k ++ p :: H.drop (k + 1)).map (·.1)).count x := by rw [← e]
    rw [this]
    unfold outK
    simp only [List.map_append, List.map_cons, List.count_append, List.count_cons, beq_iff_eq]
    omega
  have h0 := ha.1
  have hpf := h.pn p.1
  have hc := hcnt p.1
  rw [if_pos rfl] at hc
  refine ⟨⟨?_, fun q hq => h.al q (outK_mem hq), fun x => ?_⟩, ?_⟩
  · obtain ⟨v0, v1, R, rfl⟩ := h.two
    obtain ⟨j, rfl⟩ : ∃ j, k = j + 2 := ⟨k - 2, by omega⟩
    exact ⟨v0, v1, R.take j ++ R.drop (j + 1), rfl⟩
  · have hx := h.pn x
    have hcx := hcnt x
    by_cases h2 : 2 ≤ p.1
    · rw [if_pos h2] at hpf
      rw [if_pos (by omega)]
      unfold pinA
      by_cases e : x = p.1
      · subst e
        rw [if_pos rfl, if_pos h2]
        omega
      · rw [if_neg e, hx]
        rw [if_neg (fun q => e q.symm)] at hcx
        rw [hcx]
        rfl
    · rw [if_neg h2] at hpf
      rw [if_neg (by omega), hx]
      by_cases h3 : 2 ≤ x
      · rw [if_pos h3, if_pos h3]
        rw [if_neg (by omega)] at hcx
        rw [hcx]
        rfl
      · rw [if_neg h3, if_neg h3]
  · unfold unpE
    by_cases h2 : 2 ≤ p.1
    · rw [if_pos h2] at hpf
      rw [if_pos (Or.inl (by omega))]
    · rw [if_pos (Or.inr (by omega))]
theorem outK_len' {H : List HT} {k : Nat} (h : k < H.length) : (H.take k ++ H.drop (k + 1)).length = H.length - 1 := outK_len h
/-- The list is laid anew, without one. -/
theorem Hf.drop {w0 : Wx} {x y z : World} {F : Nat → Prop} {wb g n most k : Nat} {lv v' : Value} {S : St} {pn : Int → Int} {H : List HT} (h : Hf w0 x F wb lv g n most S pn H) (hk : k < H.length) (hFx : ∀ b, F b → b < x.heap.size) (hb : Below x.heap.size x y) (hrow : y.ownsRow x.heap.size 36 2 v' (outK H k).length (hcs (outK H k))) (hz : z = y.setCell ⟨wb, 3, none⟩ v') :
    Hf w0 z F wb v' g n most S pn (outK H k) := by
  have hwl := blk_lt h.wc
  have hwc := (hb.block wb hwl).trans h.wc
  have hs : z.heap[wb]? = some (.cells #[.pointer (some ⟨g, 0, none⟩), .int .i64 (n : Int), .int .i64 (most : Int), v', .bool true] 29 (0, 0)) := by
    have := heap_setCell_same y wb 3 _ _ v' hwc
    rw [hz]
    simpa using this
  have ho : ∀ k, k ≠ wb → z.heap[k]? = y.heap[k]? := fun k e => by rw [hz]; exact heap_setCell_other _ _ _ _ (show k ≠ wb from e)
  have hvb : ∀ b, v'.ownBlock = some b → x.heap.size ≤ b := fun b e => (World.ownsRow.lt hrow b e).1
  refine ⟨?_, ⟨h.rm.gr.kept fun q hq hf => (ho q (fun e => h.wf (e ▸ hf))).trans (hb.block q hq), h.rm.sp, h.rm.ps⟩, h.low, h.wf, h.wl, hs, ⟨?_, fun b e hf => ?_, fun p hp => ?_⟩, ?_, fun q p e => ⟨(h.xb q p e).1, ?_, (h.xb q p e).2.2⟩⟩
  · rw [hz]
    exact (h.bel.trans (hb.mono h.bel.size)).setCell (p := ⟨wb, 3, none⟩) h.wl _
  · rw [hz]
    exact own_mono (row_far hrow (fun e => by have := hvb _ e; omega)) h.bel.size
  · have := hvb b e
    have := hFx b hf
    omega
  · refine (h.hl.tb p (outK_mem hp)).keep fun q cs e hf => ⟨(ho q (fun a => ?_)).trans (hb.block q (blk_lt e)), hf⟩
    subst a
    rw [h.wc] at e
    cases e
  · rw [outK_len hk]
    have := h.few
    omega
  · obtain ⟨pc, pt⟩ := p
    obtain ⟨⟨t1, t2⟩, hc, -⟩ := h.xb q _ e
    dsimp only at t1 t2 hc
    refine (ho q (fun a => ?_)).trans ((hb.block q (blk_lt hc)).trans hc)
    subst a; rw [h.wc] at hc; cases hc; exact t2 rfl
/-- A drawn region that reads, lets go, and stores that all is fine. -/
structure US (W : World) (wb : Nat) (Q : World → Prop) (g : Nat → Nat) (D : Nat → Bool) (x : World) : Prop where
  d : D 23 = true → D 18 = true
  a : D 18 = false → x = W.drew
  b : D 18 = true → D 23 = false → Q x
  c : D 23 = true → ∃ y, Q y ∧ x = y.setCell ⟨wb, 4, none⟩ (.bool true)
section
variable {W x y : World} {wb i : Nat} {Q : World → Prop} {g : Nat → Nat} {D : Nat → Bool}
theorem US.start : US W wb Q (fun _ => 0) (fun _ => false) W.drew := ⟨(fun e => nomatch e), (fun _ => rfl), (fun e => nomatch e), fun e => nomatch e⟩
theorem US.go (h : US W wb Q g D x) (hi : (i != 18 && i != 23) = true) : US W wb Q g (updB D i) x := by
  simp only [Bool.and_eq_true, bne_iff_ne, ne_eq] at hi
  have u1 := updB_ne (L := D) (i := i) (k := 18) (by omega)
  have u2 := updB_ne (L := D) (i := i) (k := 23) (by omega)
  exact ⟨by rw [u1, u2]; exact h.d, by rw [u1]; exact h.a, by rw [u1, u2]; exact h.b, by rw [u2]; exact h.c⟩
theorem US.called (h : US W wb Q g D x) (h23 : D 23 = false) (hq : Q y) : US W wb Q g (updB D 18) y := by
  have u2 := updB_ne (L := D) (i := 18) (k := 23) (by decide)
  exact ⟨(by rw [u2, h23]; intro e; cases e), (fun e => by rw [updB_eq] at e; cases e), (fun _ _ => hq), by rw [u2, h23]; intro e; cases e⟩
theorem US.stored (h : US W wb Q g D x) (h18 : D 18 = true) (h23 : D 23 = false) : US W wb Q g (updB D 23) (x.setCell ⟨wb, 4, none⟩ (.bool true)) := by
  have u1 := updB_ne (L := D) (i := 23) (k := 18) (by decide)
  exact ⟨(fun _ => by rw [u1]; exact h18), (fun e => by rw [u1, h18] at e; cases e), (fun _ e => by rw [updB_eq] at e; cases e), fun _ => ⟨x, h.b h18 h23, rfl⟩⟩
end
/-- A drawn region that copies a row without one of its things, and stores it. -/
structure VS (W : World) (wb k m : Nat) (T U : List Value) (g : Nat → Nat) (D : Nat → Bool) (x : World) : Prop where
  d : (D 15 = true → D 7 = true) ∧ (D 18 = true → D 15 = true)
  a : D 18 = false → Below W.heap.size W x
  b : D 7 = true → D 15 = false → x.ownsRow W.heap.size 36 2 (sl k (g 7)) k T
  e : D 15 = true → D 18 = false → x.ownsRow W.heap.size 36 2 (sl (k + m) (g 15)) (k + m) (T ++ U)
  c : D 18 = true → ∃ y, Below W.heap.size W y ∧ y.ownsRow W.heap.size 36 2 (sl (k + m) (g 15)) (k + m) (T ++ U) ∧ x = y.setCell ⟨wb, 3, none⟩ (sl (k + m) (g 15))
section
variable {W x y : World} {wb k m i pc : Nat} {T U : List Value} {g : Nat → Nat} {D : Nat → Bool}
theorem VS.start : VS W wb k m T U (fun _ => 0) (fun _ => false) W.drew := ⟨⟨(fun e => nomatch e), fun e => nomatch e⟩, (fun _ => ⟨rfl, rfl, rfl, Nat.le_refl _, fun _ _ => rfl⟩), (fun e => nomatch e), (fun e => nomatch e), fun e => nomatch e⟩
theorem VS.go (h : VS W wb k m T U g D x) (hi : (i != 7 && i != 15 && i != 18) = true) : VS W wb k m T U g (updB D i) x := by
  simp only [Bool.and_eq_true, bne_iff_ne, ne_eq] at hi
  have u1 := updB_ne (L := D) (i := i) (k := 7) (by omega)
  have u2 := updB_ne (L := D) (i := i) (k := 15) (by omega)
  have u3 := updB_ne (L := D) (i := i) (k := 18) (by omega)
  exact ⟨by rw [u1, u2, u3]; exact h.d, by rw [u3]; exact h.a, by rw [u1, u2]; exact h.b, by rw [u2, u3]; exact h.e, by rw [u3]; exact h.c⟩
theorem VS.first (h : VS W wb k m T U g D x) (h7 : D 7 = false) (hown : y.ownsRow W.heap.size 36 2 (sl k pc) k T) (hg : x.grownBy y none) : VS W wb k m T U (updG g 7 pc) (updB D 7) y := by
  have h15 : D 15 = false := by
    cases e : D 15
    · rfl
    · rw [h.d.1 e] at h7; cases h7
  have h18 : D 18 = false := by
    cases e : D 18
    · rfl
    · rw [h.d.2 e] at h15; cases h15
  have u2 := updB_ne (L := D) (i := 7) (k := 15) (by decide)
  have u3 := updB_ne (L := D) (i := 7) (k := 18) (by decide)
  refine ⟨⟨fun _ => updB_eq .., by rw [u3, h18]; intro e; cases e⟩, fun _ => (h.a h18).grown hg (by have := (h.a h18).size; omega) (fun b e => nomatch e), fun _ _ => by rw [updG_eq]; exact hown, (by rw [u2, h15]; intro e; cases e), by rw [u3, h18]; intro e; cases e⟩
theorem VS.second (h : VS W wb k m T U g D x) (h7 : D 7 = true) (h15 : D 15 = false) (hown : y.ownsRow W.heap.size 36 2 (sl (k + m) pc) (k + m) (T ++ U)) (hg : x.grownBy y (sl k (g 7)).ownBlock) : VS W wb k m T U (updG g 15 pc) (updB D 15) y := by
  have h18 : D 18 = false := by
    cases e : D 18
    · rfl
    · rw [h.d.2 e] at h15; cases h15
  have u1 := updB_ne (L := D) (i := 15) (k := 7) (by decide)
  have u3 := updB_ne (L := D) (i := 15) (k := 18) (by decide)
  refine ⟨⟨fun _ => by rw [u1]; exact h7, by rw [u3, h18]; intro e; cases e⟩, fun _ => (h.a h18).grown hg (by have := (h.a h18).size; omega) (fun b e => (World.ownsRow.lt (h.b h7 h15) b e).1), (fun _ e => by rw [updB_eq] at e; cases e), (fun _ _ => by rw [updG_eq]; exact hown), by rw [u3, h18]; intro e; cases e⟩
theorem VS.third (h : VS W wb k m T U g D x) (h15 : D 15 = true) (h18 : D 18 = false) : VS W wb k m T U g (updB D 18) (x.setCell ⟨wb, 3, none⟩ (sl (k + m) (g 15))) := by
  have u1 := updB_ne (L := D) (i := 18) (k := 7) (by decide)
  have u2 := updB_ne (L := D) (i := 18) (k := 15) (by decide)
  refine ⟨⟨fun _ => by rw [u1]; exact h.d.1 h15, fun _ => by rw [u2]; exact h15⟩, (fun e => by rw [updB_eq] at e; cases e), (fun _ e => by rw [u2, h15] at e; cases e), (fun _ e => by rw [updB_eq] at e; cases e), fun _ => ⟨x, h.a h18, h.e h15 h18, rfl⟩⟩
end
end Go.Proofs.YtohfjpahdoodgaaGreatDoor
