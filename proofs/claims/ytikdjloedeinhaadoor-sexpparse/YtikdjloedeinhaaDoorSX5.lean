/- Contracts (sexp): how long a word is; a word is taken. -/
import Derived.Test.YtikdjloedeinhaaDoorSX4
namespace Go.Proofs.YtikdjloedeinhaaDoor
open Go.RowKit
set_option linter.unusedSimpArgs false
set_option linter.unusedVariables false
open Go.Shelf

theorem wrapN {n : Nat} (h : n ≤ 9223372036854775807) : IntKind.i64.wrap (n : Int) = (n : Int) := by rw [IntKind.wrap_i64]; omega
/-- How long a word with bars is, n bytes of it being behind. -/
def barz : List UInt8 → Nat → Nat
  | [], _ => 0
  | c :: l, n => if c = 124 then n + 1 else if c = 10 then 0 else barz l (n + 1)
def wpl : List UInt8 → Nat
  | [] => 0
  | c :: l => if pln c then wpl l + 1 else 0
/-- How long the word is that a text opens with (0: none). -/
def wsz : List UInt8 → Nat
  | [] => 0
  | c :: l => if c = 124 then barz l 1 else wpl (c :: l)
theorem drop_cons {t : ByteArray} {k : Nat} (h : k < t.size) : t.data.toList.drop k = (t[k]'h) :: t.data.toList.drop (k + 1) := by
  have hl : k < t.data.toList.length := by rw [len_t]; exact h
  have he : t.data.toList[k] = t[k]'h := by
    have := byte_at h
    rw [List.getElem?_eq_getElem hl] at this
    exact Option.some.inj this
  rw [List.drop_eq_getElem_cons hl, he]
theorem drop_none {t : ByteArray} {k : Nat} (h : t.size ≤ k) : t.data.toList.drop k = [] := List.drop_of_length_le (by rw [len_t]; exact h)
theorem barz_le : ∀ (l : List UInt8) (n : Nat), barz l n ≤ l.length + n
  | [], _ => by simp [barz]
  | c :: l, n => by
    have := barz_le l (n + 1)
    simp only [barz, List.length_cons]
    split
    · omega
    · split <;> omega
theorem wpl_le : ∀ l : List UInt8, wpl l ≤ l.length
  | [] => Nat.le_refl _
  | c :: l => by
    have := wpl_le l
    simp only [wpl, List.length_cons]
    split <;> omega
theorem wsz_le (l : List UInt8) : wsz l ≤ l.length := by
  cases l with
  | nil => exact Nat.le_refl _
  | cons c l =>
    show (if c = 124 then barz l 1 else wpl (c :: l)) ≤ (c :: l).length
    split
    · have := barz_le l 1
      rw [List.length_cons]; exact this
    · exact wpl_le _
theorem wsz_room (t : ByteArray) (k : Nat) (hk : k ≤ t.size) : k + wsz (t.data.toList.drop k) ≤ t.size := by
  have := wsz_le (t.data.toList.drop k)
  rw [List.length_drop, len_t] at this
  omega
/-- A new cursor of two cells, at a place. -/
theorem cur_new (w : World) (t : ByteArray) (k : Nat) (T : TypeId) : Cu (w.alloc (.cells #[.string t, .int .i64 (k : Int)] T)) w.heap.size t k [] T := ⟨heap_alloc_new w _⟩
theorem on_below {w0 w w' : World} {b B : Nat} (h : Below B w0 w) (ho : On w w' b) (hB : B ≤ b) : Below B w0 w' :=
  ⟨ho.os.trans h.os, ho.tape.trans h.tape, ho.output.trans h.output, by rw [ho.size]; exact h.size, fun k hk => (ho.block k (by omega)).trans (h.block k hk)⟩
theorem Cu.far {w w' : World} {b k B : Nat} {t : ByteArray} {r : List Value} {T : TypeId} (h : Cu w b t k r T) (hb : Below B w w') (hB : b < B) : Cu w' b t k r T := ⟨(hb.block b hB).trans h.hd⟩
theorem al_below {w0 w w' : World} {B : Nat} (h : Below B w0 w) (ha : Al w w') : Below B w0 w' :=
  ⟨ha.os.trans h.os, ha.tape.trans h.tape, ha.output.trans h.output, by rw [ha.heap]; exact h.size, fun k hk => by rw [ha.heap]; exact h.block k hk⟩

set_option maxHeartbeats 3200000 in
theorem barWord_any {w : World} {b k : Nat} {t : ByteArray} {r : List Value} {T : TypeId} (h : Cu w b t k r T) (hk : k < t.size) (ht : t.size ≤ 9223372036854775807) :
    Calls Tryd.prog 47 #[.pointer (some ⟨b, 0, none⟩)] w fun e w' => e = .returned (.int .i64 (barz (t.data.toList.drop (k + 1)) 1 : Nat)) ∧ Below w.heap.size w w' := by
  have H : Hid _ := h
  have c0 := h.c0
  have c1 := h.c1
  have hlb := h.lt
  obtain ⟨R, hR⟩ : ∃ R, R = barz (t.data.toList.drop (k + 1)) 1 := ⟨_, rfl⟩
  rw [← hR]
  have HR : Hid _ := hR
  clear h hR
  go_enter Tryd.func47, Tryd.ntmps47
  go_wp2_with fail
  refine Calls.mono (step_any (cur_new w t k _) (by omega)) ?_
  rintro e w1 ⟨rfl, hcu, hon⟩
  have HW1 : Hid (Cu w1 w.heap.size t (k + 1) [] 49 ∧ Below w.heap.size w w1) := ⟨hcu, on_below ((Below.refl _ _).alloc (Nat.le_refl _) _) hon (Nat.le_refl _)⟩
  clear hcu hon c0 c1
  go_wp2_with fail
  go_loopw [14] (fun u wr => ∃ j, k + 1 ≤ j ∧ j ≤ t.size ∧ Hid (Cu wr w.heap.size t j [] 49 ∧ Below w.heap.size w wr ∧ R = barz (t.data.toList.drop j) (j - k)) ∧ Hid (wr.cell? ⟨w.heap.size, 1, none⟩ = some (.int .i64 (j : Int)))) (fun u wr => t.size - (((wr.cell? ⟨w.heap.size, 1, none⟩).map intOf).getD 0).toNat)
  case atStart => exact ⟨k + 1, Nat.le_refl _, hk, ⟨HW1.out.1, HW1.out.2, by rw [HR.out, show k + 1 - k = 1 by omega]⟩, HW1.out.1.c1⟩
  case round =>
    clear HW1
    obtain ⟨j, hkj, hj, hH, hC⟩ := hrel
    by_cases he : t.size ≤ j
    · have HE : Hid (∀ wx, Cu wx w.heap.size t j [] 49 → Calls Tryd.prog 36 #[.pointer (some ⟨w.heap.size, 0, none⟩)] wx fun e w' => e = .returned (.bool true) ∧ Al wx w') := fun wx hx => ended_yes hx he
      go_wp2_with fail
      refine Calls.mono (HE.out _ hH.out.1) ?_
      rintro e w2 ⟨rfl, ha⟩
      go_wp2_with fail
      refine Calls.mono (HE.out _ (hH.out.1.al ha)) ?_
      rintro e w3 ⟨rfl, ha3⟩
      go_wp2_with fail
      have hz : R = 0 := by rw [hH.out.2.2, drop_none he]; rfl
      rw [hz]
      go_ret
      exact ⟨rfl, al_below (al_below hH.out.2.1 ha) ha3⟩
    · have hlt : j < t.size := by omega
      have HE : Hid (∀ wx, Cu wx w.heap.size t j [] 49 → Calls Tryd.prog 36 #[.pointer (some ⟨w.heap.size, 0, none⟩)] wx fun e w' => e = .returned (.bool false) ∧ Al wx w') := fun wx hx => ended_no hx hlt
      obtain ⟨c, hc⟩ : ∃ c, c = t[j]'hlt := ⟨_, rfl⟩
      have HH : Hid (∀ wx, Cu wx w.heap.size t j [] 49 → Calls Tryd.prog 46 #[.pointer (some ⟨w.heap.size, 0, none⟩)] wx fun e w' => e = .returned (.int .u8 (c.toNat : Int)) ∧ Al wx w') := fun wx hx => by rw [hc]; exact here_any hx hlt
      have HS : Hid (∀ wx, Cu wx w.heap.size t j [] 49 → Calls Tryd.prog 49 #[.pointer (some ⟨w.heap.size, 0, none⟩)] wx fun e w' => e = .returned (.tuple #[]) ∧ Cu w' w.heap.size t (j + 1) [] 49 ∧ On wx w' w.heap.size) := fun wx hx => step_any hx (by omega)
      have HQ : Hid (R = if c = 124 then j - k + 1 else if c = 10 then 0 else barz (t.data.toList.drop (j + 1)) (j + 1 - k)) := by
        unfold Hid
        rw [hH.out.2.2, drop_cons hlt, ← hc, show j + 1 - k = j - k + 1 by omega]; rfl
      clear hc
      by_cases h124 : (c.toNat : Int) = 124
      · have hb124 : ((c.toNat : Int) != 124) = false := by simp [h124]
        go_wp2_with fail
        refine Calls.mono (HE.out _ hH.out.1) ?_
        rintro e w2 ⟨rfl, ha⟩
        go_wp2_with fail
        refine Calls.mono (HH.out _ (hH.out.1.al ha)) ?_
        rintro e w3 ⟨rfl, ha3⟩
        go_wp2_with fail
        refine Calls.mono (HE.out _ ((hH.out.1.al ha).al ha3)) ?_
        rintro e w4 ⟨rfl, ha4⟩
        go_wp2_with fail
        refine Calls.mono (HS.out _ (((hH.out.1.al ha).al ha3).al ha4)) ?_
        rintro e w5 ⟨rfl, hcu, hon⟩
        have hb5 : Below w.heap.size w w5 := on_below (al_below (al_below (al_below hH.out.2.1 ha) ha3) ha4) hon (Nat.le_refl _)
        have d1 := hcu.c1
        have c1 := (H.out.far hb5 hlb).c1
        have HB5 : Hid _ := hb5
        clear hcu hon hb5
        have hz : R = j - k + 1 := by rw [HQ.out, if_pos ((u8_124 c).1 h124)]
        have hzi : ((j : Int) + 1) - (k : Int) = (R : Int) := by omega
        have hd1 : w5.cell? ⟨w.heap.size, 1, none⟩ = some (.int .i64 ((j : Int) + 1)) := d1
        clear d1 hz
        go_wp2_with fail
        go_quiet (fail)
        go_wp2_with fail
        go_ret
        exact ⟨by rw [← hzi]; rfl, below_drewN HB5.out _⟩
      · have hb124 : ((c.toNat : Int) != 124) = true := by simp [h124]
        by_cases h10 : (c.toNat : Int) = 10
        · have hb10 : ((c.toNat : Int) == 10) = true := by simp [h10]
          go_wp2_with fail
          refine Calls.mono (HE.out _ hH.out.1) ?_
          rintro e w2 ⟨rfl, ha⟩
          go_wp2_with fail
          refine Calls.mono (HH.out _ (hH.out.1.al ha)) ?_
          rintro e w3 ⟨rfl, ha3⟩
          go_wp2_with fail
          refine Calls.mono (HH.out _ ((hH.out.1.al ha).al ha3)) ?_
          rintro e w4 ⟨rfl, ha4⟩
          go_wp2_with fail
          have hz : R = 0 := by rw [HQ.out, if_neg (fun e => h124 ((u8_124 c).2 e)), if_pos ((u8_10 c).1 h10)]
          rw [hz]
          go_ret
          exact ⟨rfl, al_below (al_below (al_below hH.out.2.1 ha) ha3) ha4⟩
        · have hb10 : ((c.toNat : Int) == 10) = false := by simp [h10]
          go_wp2_with fail
          refine Calls.mono (HE.out _ hH.out.1) ?_
          rintro e w2 ⟨rfl, ha⟩
          go_wp2_with fail
          refine Calls.mono (HH.out _ (hH.out.1.al ha)) ?_
          rintro e w3 ⟨rfl, ha3⟩
          go_wp2_with fail
          refine Calls.mono (HH.out _ ((hH.out.1.al ha).al ha3)) ?_
          rintro e w4 ⟨rfl, ha4⟩
          go_wp2_with fail
          refine Calls.mono (HS.out _ (((hH.out.1.al ha).al ha3).al ha4)) ?_
          rintro e w5 ⟨rfl, hcu, hon⟩
          go_wp2_with fail
          have hb5 : Below w.heap.size w w5 := on_below (al_below (al_below (al_below hH.out.2.1 ha) ha3) ha4) hon (Nat.le_refl _)
          have hcc := hcu.c1
          have hc0 := hC.out
          exact ⟨⟨j + 1, by omega, by omega, ⟨hcu, hb5, by rw [HQ.out, if_neg (fun e => h124 ((u8_124 c).2 e)), if_neg (fun e => h10 ((u8_10 c).2 e))]⟩, hcc⟩, by rw [hcc, hc0]; simp [intOf]; omega⟩

set_option maxHeartbeats 3200000 in
theorem wordSize_any {w : World} {b k : Nat} {t : ByteArray} {r : List Value} {T : TypeId} (h : Cu w b t k r T) (hk : k ≤ t.size) (ht : t.size ≤ 9223372036854775807) :
    Calls Tryd.prog 33 #[.pointer (some ⟨b, 0, none⟩)] w fun e w' => e = .returned (.int .i64 (wsz (t.data.toList.drop k) : Nat)) ∧ Below w.heap.size w w' := by
  have H : Hid _ := h
  have hlb := h.lt
  have HP : (∃ hlt : k < t.size, (t[k]'hlt) = 124) ∨ (wsz (t.data.toList.drop k) = wpl (t.data.toList.drop k) ∧ (t.size ≤ k ∨ ∃ hlt : k < t.size, ¬ (t[k]'hlt) = 124)) := by
    by_cases hlt : k < t.size
    · by_cases hc : (t[k]'hlt) = 124
      · exact Or.inl ⟨hlt, hc⟩
      · refine Or.inr ⟨?_, Or.inr ⟨hlt, hc⟩⟩
        rw [drop_cons hlt]
        show (if _ then _ else _) = _
        rw [if_neg hc]
    · refine Or.inr ⟨?_, Or.inl (by omega)⟩
      rw [drop_none (by omega)]; rfl
  clear h
  rcases HP with ⟨hlt, hc⟩ | ⟨hw, hP⟩
  · have HE : Hid _ := ended_no H.out hlt
    have HH : Hid (∀ wx, Cu wx b t k r T → Calls Tryd.prog 46 #[.pointer (some ⟨b, 0, none⟩)] wx fun e w' => e = .returned (.int .u8 124) ∧ Al wx w') := fun wx hx => by
      have := here_any hx hlt
      rw [hc] at this; exact this
    have HW : Hid (∀ wx, Cu wx b t k r T → Calls Tryd.prog 47 #[.pointer (some ⟨b, 0, none⟩)] wx fun e w' => e = .returned (.int .i64 (wsz (t.data.toList.drop k) : Nat)) ∧ Below wx.heap.size wx w') := fun wx hx => by
      have h1 := barWord_any hx hlt ht
      have e1 : wsz (t.data.toList.drop k) = barz (t.data.toList.drop (k + 1)) 1 := by
        rw [drop_cons hlt]
        show (if _ then _ else _) = _
        rw [if_pos hc]
      rw [e1]; exact h1
    obtain ⟨R, hR⟩ : ∃ R, R = wsz (t.data.toList.drop k) := ⟨_, rfl⟩
    rw [← hR] at HW ⊢
    clear hR hc
    go_enter Tryd.func33, Tryd.ntmps33
    go_wp2_with fail
    refine Calls.mono HE.out ?_
    rintro e w1 ⟨rfl, ha⟩
    go_wp2_with fail
    refine Calls.mono (HH.out _ (H.out.al ha)) ?_
    rintro e w2 ⟨rfl, ha2⟩
    go_wp2_with fail
    refine Calls.mono (HW.out _ ((H.out.al ha).al ha2)) ?_
    rintro e w3 ⟨rfl, hb3⟩
    go_wp2_with fail
    go_ret
    have hs : w2.heap.size = w.heap.size := by rw [ha2.heap, ha.heap]
    rw [hs] at hb3
    exact ⟨rfl, (al_below (al_below (Below.refl _ _) ha) ha2).trans hb3⟩
  · obtain ⟨R, hR⟩ : ∃ R, R = wpl (t.data.toList.drop k) := ⟨_, rfl⟩
    rw [hw, ← hR]
    have HR : Hid _ := hR
    clear hw hR
    rcases hP with he0 | ⟨hlt0, hn0⟩
    · have HE : Hid _ := ended_yes H.out he0
      go_enter Tryd.func33, Tryd.ntmps33
      go_wp2_with fail
      refine Calls.mono HE.out ?_
      rintro e w1 ⟨rfl, ha⟩
      have HA : Hid _ := ha
      clear ha HE
      have c0 := (H.out.al HA.out).c0
      have c1 := (H.out.al HA.out).c1
      have HSZ : Hid (w1.heap.size = w.heap.size) := by unfold Hid; rw [HA.out.heap]
      go_wp2_with fail
      clear c0 c1
      go_loopw [27] (fun u wr => ∃ j, k ≤ j ∧ j ≤ t.size ∧ Hid (Cu wr w1.heap.size t j [] 49 ∧ Below w.heap.size w wr ∧ R = j - k + wpl (t.data.toList.drop j)) ∧ Hid (wr.cell? ⟨w1.heap.size, 1, none⟩ = some (.int .i64 (j : Int)))) (fun u wr => t.size - (((wr.cell? ⟨w1.heap.size, 1, none⟩).map intOf).getD 0).toNat)
      case atStart =>
        have hcn := cur_new w1 t k 49
        exact ⟨k, Nat.le_refl _, hk, ⟨hcn, (al_below (Below.refl _ _) HA.out).alloc (by rw [HSZ.out]; omega) _, by rw [HR.out]; omega⟩, hcn.c1⟩
      case round =>
        obtain ⟨j, hkj, hj, hH, hC⟩ := hrel
        by_cases he : t.size ≤ j
        · have HE2 : Hid (∀ wx, Cu wx w1.heap.size t j [] 49 → Calls Tryd.prog 36 #[.pointer (some ⟨w1.heap.size, 0, none⟩)] wx fun e w' => e = .returned (.bool true) ∧ Al wx w') := fun wx hx => ended_yes hx he
          go_wp2_with fail
          refine Calls.mono (HE2.out _ hH.out.1) ?_
          rintro e v2 ⟨rfl, hv2⟩
          have hd1 := (hH.out.1.al hv2).c1
          have hbv := al_below hH.out.2.1 hv2
          have hc1 := (H.out.far hbv hlb).c1
          have HBV : Hid _ := hbv
          have hzi : (j : Int) - (k : Int) = (R : Int) := by
            have := hH.out.2.2
            rw [drop_none he] at this
            simp only [wpl] at this
            omega
          clear hbv
          go_wp2_with fail
          go_quiet (fail)
          go_wp2_with fail
          go_ret
          exact ⟨by first | (rw [← hzi]; rfl) | (rw [wrapN (n := R) (by omega)]; rfl), below_drewN HBV.out _⟩
        · have hlt : j < t.size := by omega
          have HE2 : Hid (∀ wx, Cu wx w1.heap.size t j [] 49 → Calls Tryd.prog 36 #[.pointer (some ⟨w1.heap.size, 0, none⟩)] wx fun e w' => e = .returned (.bool false) ∧ Al wx w') := fun wx hx => ended_no hx hlt
          obtain ⟨c, hc⟩ : ∃ c, c = t[j]'hlt := ⟨_, rfl⟩
          have HH2 : Hid (∀ wx, Cu wx w1.heap.size t j [] 49 → Calls Tryd.prog 46 #[.pointer (some ⟨w1.heap.size, 0, none⟩)] wx fun e w' => e = .returned (.int .u8 (c.toNat : Int)) ∧ Al wx w') := fun wx hx => by rw [hc]; exact here_any hx hlt
          have HS2 : Hid (∀ wx, Cu wx w1.heap.size t j [] 49 → Calls Tryd.prog 49 #[.pointer (some ⟨w1.heap.size, 0, none⟩)] wx fun e w' => e = .returned (.tuple #[]) ∧ Cu w' w1.heap.size t (j + 1) [] 49 ∧ On wx w' w1.heap.size) := fun wx hx => step_any hx (by omega)
          obtain ⟨pc, hpc⟩ : ∃ pc, pc = pln c := ⟨_, rfl⟩
          have HPL : Hid (∀ wx, Calls Tryd.prog 48 #[.int .u8 (c.toNat : Int)] wx fun e w' => e = .returned (.bool pc) ∧ w' = wx) := fun wx => by rw [hpc]; exact isPlain_any c wx
          have HQ : Hid (R = j - k + if pc then wpl (t.data.toList.drop (j + 1)) + 1 else 0) := by
            unfold Hid
            rw [hH.out.2.2, drop_cons hlt, ← hc, hpc]; rfl
          clear hc hpc
          go_wp2_with fail
          refine Calls.mono (HE2.out _ hH.out.1) ?_
          rintro e v2 ⟨rfl, hv2⟩
          go_wp2_with fail
          refine Calls.mono (HH2.out _ (hH.out.1.al hv2)) ?_
          rintro e v3 ⟨rfl, hv3⟩
          go_wp2_with fail
          refine Calls.mono (HPL.out _) ?_
          rintro e v3b ⟨rfl, hv3b⟩
          rw [hv3b]
          clear hv3b v3b
          cases pc
          · have hd1 := ((hH.out.1.al hv2).al hv3).c1
            have hbv := al_below (al_below hH.out.2.1 hv2) hv3
            have hc1 := (H.out.far hbv hlb).c1
            have HBV : Hid _ := hbv
            have hzi : (j : Int) - (k : Int) = (R : Int) := by
              have := HQ.out
              simp only [Bool.false_eq_true, if_false] at this
              omega
            clear hbv
            go_wp2_with fail
            go_quiet (fail)
            go_wp2_with fail
            go_ret
            exact ⟨by first | (rw [← hzi]; rfl) | (rw [wrapN (n := R) (by omega)]; rfl), below_drewN HBV.out _⟩
          · go_wp2_with fail
            refine Calls.mono (HS2.out _ ((hH.out.1.al hv2).al hv3)) ?_
            rintro e v4 ⟨rfl, hcu, hon⟩
            go_wp2_with fail
            have hb5 : Below w.heap.size w v4 := on_below (al_below (al_below hH.out.2.1 hv2) hv3) hon (by rw [HSZ.out]; omega)
            have hcc := hcu.c1
            have hc0 := hC.out
            exact ⟨⟨j + 1, by omega, by omega, ⟨hcu, hb5, by have := HQ.out; simp only [if_true] at this; omega⟩, hcc⟩, by rw [hcc, hc0]; simp [intOf]; omega⟩
    · have HE : Hid _ := ended_no H.out hlt0
      obtain ⟨c0, hc0⟩ : ∃ c, c = t[k]'hlt0 := ⟨_, rfl⟩
      have HH : Hid (∀ wx, Cu wx b t k r T → Calls Tryd.prog 46 #[.pointer (some ⟨b, 0, none⟩)] wx fun e w' => e = .returned (.int .u8 (c0.toNat : Int)) ∧ Al wx w') := fun wx hx => by rw [hc0]; exact here_any hx hlt0
      have hb0 : ((c0.toNat : Int) == 124) = false := by
        rw [← hc0] at hn0
        simp
        exact fun e => hn0 ((u8_124 c0).1 e)
      clear hc0 hn0
      go_enter Tryd.func33, Tryd.ntmps33
      go_wp2_with fail
      refine Calls.mono HE.out ?_
      rintro e w1 ⟨rfl, ha⟩
      go_wp2_with fail
      refine Calls.mono (HH.out _ (H.out.al ha)) ?_
      rintro e w2 ⟨rfl, ha2⟩
      have HA : Hid (Al w w2) := ha.trans ha2
      clear ha ha2 HE HH
      have c0 := (H.out.al HA.out).c0
      have c1 := (H.out.al HA.out).c1
      have HSZ : Hid (w2.heap.size = w.heap.size) := by unfold Hid; rw [HA.out.heap]
      go_wp2_with fail
      clear c0 c1
      go_loopw [27] (fun u wr => ∃ j, k ≤ j ∧ j ≤ t.size ∧ Hid (Cu wr w2.heap.size t j [] 49 ∧ Below w.heap.size w wr ∧ R = j - k + wpl (t.data.toList.drop j)) ∧ Hid (wr.cell? ⟨w2.heap.size, 1, none⟩ = some (.int .i64 (j : Int)))) (fun u wr => t.size - (((wr.cell? ⟨w2.heap.size, 1, none⟩).map intOf).getD 0).toNat)
      case atStart =>
        have hcn := cur_new w2 t k 49
        exact ⟨k, Nat.le_refl _, hk, ⟨hcn, (al_below (Below.refl _ _) HA.out).alloc (by rw [HSZ.out]; omega) _, by rw [HR.out]; omega⟩, hcn.c1⟩
      case round =>
        obtain ⟨j, hkj, hj, hH, hC⟩ := hrel
        by_cases he : t.size ≤ j
        · have HE2 : Hid (∀ wx, Cu wx w2.heap.size t j [] 49 → Calls Tryd.prog 36 #[.pointer (some ⟨w2.heap.size, 0, none⟩)] wx fun e w' => e = .returned (.bool true) ∧ Al wx w') := fun wx hx => ended_yes hx he
          go_wp2_with fail
          refine Calls.mono (HE2.out _ hH.out.1) ?_
          rintro e v2 ⟨rfl, hv2⟩
          have hd1 := (hH.out.1.al hv2).c1
          have hbv := al_below hH.out.2.1 hv2
          have hc1 := (H.out.far hbv hlb).c1
          have HBV : Hid _ := hbv
          have hzi : (j : Int) - (k : Int) = (R : Int) := by
            have := hH.out.2.2
            rw [drop_none he] at this
            simp only [wpl] at this
            omega
          clear hbv
          go_wp2_with fail
          go_quiet (fail)
          go_wp2_with fail
          go_ret
          exact ⟨by first | (rw [← hzi]; rfl) | (rw [wrapN (n := R) (by omega)]; rfl), below_drewN HBV.out _⟩
        · have hlt : j < t.size := by omega
          have HE2 : Hid (∀ wx, Cu wx w2.heap.size t j [] 49 → Calls Tryd.prog 36 #[.pointer (some ⟨w2.heap.size, 0, none⟩)] wx fun e w' => e = .returned (.bool false) ∧ Al wx w') := fun wx hx => ended_no hx hlt
          obtain ⟨c, hc⟩ : ∃ c, c = t[j]'hlt := ⟨_, rfl⟩
          have HH2 : Hid (∀ wx, Cu wx w2.heap.size t j [] 49 → Calls Tryd.prog 46 #[.pointer (some ⟨w2.heap.size, 0, none⟩)] wx fun e w' => e = .returned (.int .u8 (c.toNat : Int)) ∧ Al wx w') := fun wx hx => by rw [hc]; exact here_any hx hlt
          have HS2 : Hid (∀ wx, Cu wx w2.heap.size t j [] 49 → Calls Tryd.prog 49 #[.pointer (some ⟨w2.heap.size, 0, none⟩)] wx fun e w' => e = .returned (.tuple #[]) ∧ Cu w' w2.heap.size t (j + 1) [] 49 ∧ On wx w' w2.heap.size) := fun wx hx => step_any hx (by omega)
          obtain ⟨pc, hpc⟩ : ∃ pc, pc = pln c := ⟨_, rfl⟩
          have HPL : Hid (∀ wx, Calls Tryd.prog 48 #[.int .u8 (c.toNat : Int)] wx fun e w' => e = .returned (.bool pc) ∧ w' = wx) := fun wx => by rw [hpc]; exact isPlain_any c wx
          have HQ : Hid (R = j - k + if pc then wpl (t.data.toList.drop (j + 1)) + 1 else 0) := by
            unfold Hid
            rw [hH.out.2.2, drop_cons hlt, ← hc, hpc]; rfl
          clear hc hpc
          go_wp2_with fail
          refine Calls.mono (HE2.out _ hH.out.1) ?_
          rintro e v2 ⟨rfl, hv2⟩
          go_wp2_with fail
          refine Calls.mono (HH2.out _ (hH.out.1.al hv2)) ?_
          rintro e v3 ⟨rfl, hv3⟩
          go_wp2_with fail
          refine Calls.mono (HPL.out _) ?_
          rintro e v3b ⟨rfl, hv3b⟩
          rw [hv3b]
          clear hv3b v3b
          cases pc
          · have hd1 := ((hH.out.1.al hv2).al hv3).c1
            have hbv := al_below (al_below hH.out.2.1 hv2) hv3
            have hc1 := (H.out.far hbv hlb).c1
            have HBV : Hid _ := hbv
            have hzi : (j : Int) - (k : Int) = (R : Int) := by
              have := HQ.out
              simp only [Bool.false_eq_true, if_false] at this
              omega
            clear hbv
            go_wp2_with fail
            go_quiet (fail)
            go_wp2_with fail
            go_ret
            exact ⟨by first | (rw [← hzi]; rfl) | (rw [wrapN (n := R) (by omega)]; rfl), below_drewN HBV.out _⟩
          · go_wp2_with fail
            refine Calls.mono (HS2.out _ ((hH.out.1.al hv2).al hv3)) ?_
            rintro e v4 ⟨rfl, hcu, hon⟩
            go_wp2_with fail
            have hb5 : Below w.heap.size w v4 := on_below (al_below (al_below hH.out.2.1 hv2) hv3) hon (by rw [HSZ.out]; omega)
            have hcc := hcu.c1
            have hc0 := hC.out
            exact ⟨⟨j + 1, by omega, by omega, ⟨hcu, hb5, by have := HQ.out; simp only [if_true] at this; omega⟩, hcc⟩, by rw [hcc, hc0]; simp [intOf]; omega⟩

def renM316 : Go.Shelf.Ren := ⟨fun | 316 => 64 | n => n, fun | 9 => 9 | 3 => 3 | 4 => 4 | 37 => 68 | 0 => 0 | 127 => 96 | 5 => 5 | n => n, fun | n => n⟩
theorem laysM316 : Go.Proofs.LaysM.n316 Tryd.prog renM316 := {
  mixed := by kernel_rfl
  f316 := Tryd.func64.trans (congrArg some (by kernel_rfl))
  t0 := Tryd.underlying0
  a0 := Tryd.isAgg0
  z0 := Tryd.sizeOf0
  v0 := Tryd.zeroValue0
  t3 := Tryd.underlying3
  a3 := Tryd.isAgg3
  z3 := Tryd.sizeOf3
  v3 := Tryd.zeroValue3
  t4 := Tryd.underlying4
  a4 := Tryd.isAgg4
  z4 := Tryd.sizeOf4
  v4 := Tryd.zeroValue4
  t9 := Tryd.underlying9
  a9 := Tryd.isAgg9
  z9 := Tryd.sizeOf9
  v9 := Tryd.zeroValue9
  t37 := Tryd.underlying68
  a37 := Tryd.isAgg68
  z37 := Tryd.sizeOf68
  v37 := Tryd.zeroValue68
  t127 := Tryd.underlying96
  a127 := Tryd.isAgg96
  z127 := Tryd.sizeOf96
  v127 := Tryd.zeroValue96
  t5 := Tryd.underlying5
  a5 := Tryd.isAgg5
  z5 := Tryd.sizeOf5
  v5 := Tryd.zeroValue5
  i0 := by kernel_rfl
  i3 := by kernel_rfl
  i4 := by kernel_rfl
  i5 := by kernel_rfl
  i9 := by kernel_rfl
  i37 := by kernel_rfl
  i127 := by kernel_rfl }
theorem clone_any (s : ByteArray) (w : World) (hlim : s.size ≤ 65536) :
    Calls Tryd.prog 61 #[.string s] w fun e w' => e = .returned (.string s) ∧ Below w.heap.size w w' := by
  have H : Hid (∀ wx, Calls Tryd.prog 64 #[.string s] wx fun e w' => e = .returned (.string s) ∧ Below wx.heap.size wx w') := fun wx => Any.stringslite_Clone laysM316 s wx (by omega)
  go_enter Tryd.func61, Tryd.ntmps61
  go_wp2_with fail
  refine (H.out _).mono ?_
  rintro e w1 ⟨rfl, hb⟩
  go_wp2_with fail
  go_ret
  exact ⟨rfl, hb⟩
end Go.Proofs.YtikdjloedeinhaaDoor
