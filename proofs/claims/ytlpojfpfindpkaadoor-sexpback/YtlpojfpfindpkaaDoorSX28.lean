/- The document's Word; how long a light thing is written. -/
import Derived.Test.YtlpojfpfindpkaaDoorSX20
import Derived.Test.YtlpojfpfindpkaaDoorSX26
import Derived.Test.YtlpojfpfindpkaaDoorSX27
namespace Go.Proofs.YtlpojfpfindpkaaDoor
open Go.RowKit
set_option linter.unusedSimpArgs false
set_option linter.unusedVariables false

theorem barz_full : ∀ (l : List UInt8) (n : Nat), 0 < n → barz l n = n + l.length → l.getLast? = some 124
  | [], n, h0, h => by simp [barz] at h; omega
  | c :: l, n, h0, h => by
    simp only [barz, List.length_cons] at h
    split at h
    · rename_i hc
      have : l = [] := List.length_eq_zero_iff.1 (by omega)
      rw [this, hc]; rfl
    · split at h
      · omega
      · have := barz_full l (n + 1) (by omega) (by omega)
        cases l with
        | nil => simp at this
        | cons a r => rw [List.getLast?_cons_cons]; exact this
theorem prt_lt (x : Sx) : x.prt.length + 1 ≤ 10 * x.lt := by
  match x with
  | .mk sw tl ks =>
  have ih : ∀ y ∈ ks, y.prt.length + 1 ≤ 10 * y.lt := fun y hy => prt_lt y
  have key : ∀ (l : List Sx) (b : Bool), (∀ y ∈ l, y.prt.length + 1 ≤ 10 * y.lt) → (pks b l).length ≤ 10 * lts l := by
    intro l
    induction l with
    | nil => intro b _; simp [pks]
    | cons y r ih2 =>
      intro b h
      have h1 := h y (List.mem_cons_self ..)
      have h2 := ih2 false (fun z hz => h z (List.mem_cons_of_mem _ hz))
      simp only [pks, lts, List.length_append]
      cases b <;> simp <;> omega
  have h1 := key ks true ih
  cases tl
  · have : (Sx.mk sw false ks).prt.length = sw.size := by simp [Sx.prt]
    rw [this]
    simp only [Sx.lt]
    omega
  · have : (Sx.mk sw true ks).prt.length = (pks true ks).length + 2 := by simp [Sx.prt]
    rw [this]
    simp only [Sx.lt]
    omega
termination_by SizeOf.sizeOf x
decreasing_by
  simp_wf
  have := List.sizeOf_lt_of_mem hy
  omega
theorem siz_lt (x : Sx) : x.siz ≤ x.lt := by
  match x with
  | .mk sw tl ks =>
  have ih : ∀ y ∈ ks, y.siz ≤ y.lt := fun y hy => siz_lt y
  have key : ∀ (l : List Sx), (∀ y ∈ l, y.siz ≤ y.lt) → sizs l ≤ lts l := by
    intro l
    induction l with
    | nil => intro _; simp [sizs]
    | cons y r ih2 =>
      intro h
      have h1 := h y (List.mem_cons_self ..)
      have h2 := ih2 (fun z hz => h z (List.mem_cons_of_mem _ hz))
      simp only [sizs, lts]
      omega
  have h1 := key ks ih
  cases tl
  · have : (Sx.mk sw false ks).siz = 1 := by simp [Sx.siz]
    rw [this]
    simp only [Sx.lt]
    omega
  · have : (Sx.mk sw true ks).siz = 1 + sizs ks := by simp [Sx.siz]
    rw [this]
    simp only [Sx.lt]
    omega
termination_by SizeOf.sizeOf x
decreasing_by
  simp_wf
  have := List.sizeOf_lt_of_mem hy
  omega
/-- Is the whole of it a word? -/
def isW (l : List UInt8) : Bool := decide (0 < wsz l) && decide (wsz l = l.length)
theorem isW_f {l : List UInt8} {n : Nat} (h : wsz l = n) (hn : n ≠ l.length) : isW l = false := by unfold isW; rw [h]; simp [hn]
theorem isW_t {l : List UInt8} {n : Nat} (h : wsz l = n) (hn : n = l.length) (h0 : 0 < n) : isW l = true := by unfold isW; rw [h]; simp [hn]; omega
set_option maxHeartbeats 3200000 in
theorem rWord_any (t : ByteArray) (w : World) (ht : t.size ≤ 65536) :
    Calls Tryd.prog 20 #[.string t] w fun e w' => e = .returned (.bool (isW t.data.toList)) ∧ Below w.heap.size w w' := by
  have hl := len_t t
  obtain ⟨R, hR⟩ : ∃ R, R = isW t.data.toList := ⟨_, rfl⟩
  rw [← hR]
  by_cases h0 : t.size = 0
  · have hz : R = false := by
      rw [hR, show t.data.toList = [] from List.length_eq_zero_iff.1 (by omega)]; rfl
    subst hz
    have h0I : (t.size : Int) = 0 := by omega
    clear hR hl
    go_enter Tryd.func20, Tryd.ntmps20
    go_wp2_with fail
    go_ret
    exact ⟨rfl, by go_grown⟩
  have hp : 0 < t.size := by omega
  have hpI : ((t.size : Int) == 0) = false := by rw [beq_eq_false_iff_ne]; omega
  have hdr := drop_cons hp
  rw [List.drop_zero] at hdr
  obtain ⟨c, hc⟩ : ∃ c, c = t[0]'hp := ⟨_, rfl⟩
  by_cases h124 : c = 124
  · have hb : (((t[0]'hp).toNat : Int) == 124) = true := by rw [← hc, h124]; rfl
    have hw : wsz t.data.toList = barz (t.data.toList.drop 1) 1 := by
      rw [hdr]
      show (if _ then _ else _) = _
      rw [if_pos (by rw [← hc]; exact h124)]
      rfl
    by_cases h1 : t.size < 2
    · have hz : R = false := by
        rw [hR]
        exact isW_f (n := 0) (by rw [hw, drop_none (by omega)]; rfl) (by omega)
      subst hz
      have h1I : (t.size : Int) < 2 := by omega
      clear hR hl hdr hc h124 hw
      go_enter Tryd.func20, Tryd.ntmps20
      go_wp2_with fail
      go_ret
      exact ⟨rfl, by go_grown⟩
    · have h1I : ¬ ((t.size : Int) < 2) := by omega
      have hlt1 : t.size - 1 < t.size := by omega
      obtain ⟨q, hq⟩ : ∃ q, q = t.size - 1 := ⟨_, rfl⟩
      have hqt : q < t.size := by omega
      have hqI : (t.size : Int) - 1 = (q : Int) := by omega
      have hqI0 : (0 : Int) ≤ (q : Int) := by omega
      have hqI1 : (q : Int) < (t.size : Int) := by omega
      obtain ⟨z, hz⟩ : ∃ z, z = t[q]'hqt := ⟨_, rfl⟩
      by_cases hz4 : z = 124
      · have hzb : (((t[q]'hqt).toNat : Int) != 124) = false := by rw [← hz, hz4]; rfl
        have HZ : Hid (wsz t.data.toList = barz (t.data.toList.drop 1) 1) := hw
        have HR : Hid _ := hR
        have HL : Hid _ := hl
        have HE : Hid (t.data.toList.drop q = [124]) := by
          unfold Hid
          rw [drop_cons hqt, ← hz, hz4, drop_none (by omega)]
        clear hR hl hdr hc h124 hw hz hz4 hq
        go_enter Tryd.func20, Tryd.ntmps20
        go_wp2_with fail
        go_loopw [3] (fun i wr => ∃ j : Nat, 1 ≤ j ∧ j ≤ q ∧ i = .int .i64 (j : Int) ∧ Hid (wsz t.data.toList = barz (t.data.toList.drop j) j) ∧ wr = w) (fun i wr => t.size - (intOf i).toNat)
        case atStart => exact ⟨1, by omega, by omega, rfl, HZ, rfl⟩
        case round =>
          obtain ⟨j, hj1, hjq, rfl, hB, rfl⟩ := hrel
          by_cases hlt : j < q
          · have hlI : (j : Int) < (q : Int) := by omega
            have hjt : j < t.size := by omega
            have hjI : (j : Int) < (t.size : Int) := by omega
            obtain ⟨d, hd⟩ : ∃ d, d = t[j]'hjt := ⟨_, rfl⟩
            have HQ : Hid (wsz t.data.toList = if d = 124 then j + 1 else if d = 10 then 0 else barz (t.data.toList.drop (j + 1)) (j + 1)) := by
              unfold Hid
              rw [hB.out, drop_cons hjt, ← hd]; rfl
            by_cases h12 : d = 124
            · have hy : (((t[j]'hjt).toNat : Int) == 124) = true := by rw [← hd, h12]; rfl
              have HF : Hid (R = false) := by
                unfold Hid
                rw [HR.out]
                have := HL.out
                exact isW_f (HQ.out.trans (if_pos h12)) (by omega)
              clear hd hB HZ h12
              go_wp2_with fail
              go_ret
              exact ⟨by rw [HF.out]; rfl, Below.refl _ _⟩
            · have hy : (((t[j]'hjt).toNat : Int) == 124) = false := by rw [← hd]; simp; exact fun e => h12 ((u8_124 d).1 e)
              by_cases h10 : d = 10
              · have hx : (((t[j]'hjt).toNat : Int) == 10) = true := by rw [← hd, h10]; rfl
                have HF : Hid (R = false) := by
                  unfold Hid
                  rw [HR.out]
                  have := HL.out
                  exact isW_f (HQ.out.trans ((if_neg h12).trans (if_pos h10))) (by omega)
                clear hd hB HZ h12 h10
                go_wp2_with fail
                go_ret
                exact ⟨by rw [HF.out]; rfl, Below.refl _ _⟩
              · have hx : (((t[j]'hjt).toNat : Int) == 10) = false := by rw [← hd]; simp; exact fun e => h10 ((u8_10 d).1 e)
                have HN : Hid (wsz t.data.toList = barz (t.data.toList.drop (j + 1)) (j + 1)) := HQ.out.trans ((if_neg h12).trans (if_neg h10))
                clear hd hB HZ h12 h10 HQ
                go_wp2_with fail
                exact ⟨⟨j + 1, by omega, by omega, rfl, HN, trivial⟩, by simp [intOf]; omega⟩
          · obtain rfl : j = q := by omega
            have HF : Hid (R = true) := by
              unfold Hid
              rw [HR.out]
              have := HL.out
              have h2 := hB.out
              rw [HE.out] at h2
              exact isW_t (n := j + 1) h2 (by omega) (by omega)
            clear hB HZ
            go_wp2_with fail
            go_ret
            exact ⟨by rw [HF.out]; rfl, Below.refl _ _⟩
      · have hzb : (((t[q]'hqt).toNat : Int) != 124) = true := by rw [← hz]; simp; exact fun e => hz4 ((u8_124 z).1 e)
        have hRf : R = false := by
          rw [hR]
          refine isW_f hw fun he => hz4 ?_
          have h2 := barz_full (t.data.toList.drop 1) 1 (by decide) (by rw [he, List.length_drop]; omega)
          have h3 : (t.data.toList.drop 1).getLast? = t.data.toList[q]? := by
            rw [List.getLast?_eq_getElem?, List.getElem?_drop, List.length_drop, hl]
            congr 1; omega
          rw [h3, byte_at hqt, ← hz] at h2
          exact Option.some.inj h2
        subst hRf
        clear hR hl hdr hc h124 hw hz hz4 hq
        go_enter Tryd.func20, Tryd.ntmps20
        go_wp2_with fail
        go_ret
        exact ⟨rfl, by go_grown⟩
  · have hb : (((t[0]'hp).toNat : Int) == 124) = false := by rw [← hc]; simp; exact fun e => h124 ((u8_124 c).1 e)
    have hw : wsz t.data.toList = wpl t.data.toList := by
      rw [hdr]
      show (if _ then _ else _) = _
      rw [if_neg (by rw [← hc]; exact h124)]
    have HZ : Hid (wsz t.data.toList = 0 + wpl (t.data.toList.drop 0)) := by unfold Hid; rw [hw, Nat.zero_add, List.drop_zero]
    have HR : Hid _ := hR
    have HL : Hid _ := hl
    clear hR hl hdr hc h124 hw
    go_enter Tryd.func20, Tryd.ntmps20
    go_wp2_with fail
    go_loopw [4] (fun i wr => ∃ j : Nat, j ≤ t.size ∧ i = .int .i64 (j : Int) ∧ Hid (wsz t.data.toList = j + wpl (t.data.toList.drop j)) ∧ wr = w) (fun i wr => t.size - (intOf i).toNat)
    case atStart => exact ⟨0, by omega, rfl, HZ, rfl⟩
    case round =>
      obtain ⟨j, hj, rfl, hB, rfl⟩ := hrel
      by_cases hlt : j < t.size
      · have hlI : (j : Int) < (t.size : Int) := by omega
        obtain ⟨d, hd⟩ : ∃ d, d = t[j]'hlt := ⟨_, rfl⟩
        obtain ⟨pc, hpc⟩ : ∃ pc, pc = pln d := ⟨_, rfl⟩
        have HQ : Hid (wsz t.data.toList = j + if pc then wpl (t.data.toList.drop (j + 1)) + 1 else 0) := by
          unfold Hid
          rw [hB.out, drop_cons hlt, ← hd, hpc]; rfl
        have HIN : Hid (∀ wx, Calls Tryd.prog 34 #[.int .u8 ((t[j]'hlt).toNat : Int)] wx fun e w' => e = .returned (.bool pc) ∧ w' = wx) := fun wx => by rw [hpc, hd]; exact rIn_any _ wx
        clear hd hpc hB HZ
        go_wp2_with fail
        refine Calls.mono (HIN.out _) ?_
        rintro e w1 ⟨rfl, hw1⟩
        rw [hw1]
        clear hw1 w1
        cases pc
        · have HF : Hid (R = false) := by
            unfold Hid
            rw [HR.out]
            have := HL.out
            have h2 := HQ.out
            simp at h2
            exact isW_f h2 (by omega)
          clear HQ
          go_wp2_with fail
          go_ret
          exact ⟨by rw [HF.out]; rfl, Below.refl _ _⟩
        · have HN : Hid (wsz t.data.toList = j + 1 + wpl (t.data.toList.drop (j + 1))) := by unfold Hid; have := HQ.out; simp only [if_true] at this; omega
          clear HQ
          go_wp2_with fail
          exact ⟨⟨j + 1, by omega, rfl, HN, trivial⟩, by simp [intOf]; omega⟩
      · obtain rfl : j = t.size := by omega
        have HF : Hid (R = true) := by
          unfold Hid
          rw [HR.out]
          have := HL.out
          have h2 := hB.out
          rw [drop_none (Nat.le_refl _)] at h2
          exact isW_t h2 (by simp [wpl]) (by omega)
        clear hB HZ
        go_wp2_with fail
        go_ret
        exact ⟨by rw [HF.out]; rfl, Below.refl _ _⟩
end Go.Proofs.YtlpojfpfindpkaaDoor
