/- The walk of SexpBack (made by gen/sx35.py). -/
import Derived.Test.YtlpojfpfindpkaaDoorSX34
namespace Go.Proofs.YtlpojfpfindpkaaDoor
open Go.RowKit
set_option linter.unusedSimpArgs false
set_option linter.unusedVariables false

theorem wts_mono {ks : List Sx} {j : Nat} : wts (ks.take j) ≤ wts ks := by
  have key : ∀ (l : List Sx) (j : Nat), wts (l.take j) ≤ wts l := by
    intro l
    induction l with
    | nil => intro j; simp
    | cons x r ih =>
      intro j
      cases j with
      | zero => simp [wts]
      | succ j => simp only [List.take_succ_cons, wts]; have := ih j; omega
  exact key ks j
theorem pks_mem {y : Sx} : ∀ (l : List Sx) (b : Bool), y ∈ l → y.prt.length ≤ (pks b l).length
  | [], _, h => by cases h
  | x :: r, b, h => by
    simp only [pks, List.length_append]
    rcases List.mem_cons.1 h with rfl | h
    · omega
    · have := pks_mem r false h; omega
theorem cl_wk (x : Sx) : ∀ {d : Nat}, x.cl d = true → x.prt.length ≤ 100000 → x.wk := by
  match x with
  | .mk w l ks =>
  intro d hc hp
  have IH : ∀ y ∈ ks, ∀ {d : Nat}, y.cl d = true → y.prt.length ≤ 100000 → y.wk := fun y hy => cl_wk y
  cases l
  · simp only [Sx.cl, Bool.false_eq_true, if_false, Bool.and_eq_true, decide_eq_true_eq] at hc
    have hk : ks = [] := List.length_eq_zero_iff.1 hc.1
    subst hk
    have e : (Sx.mk w false []).prt.length = w.size := by simp [Sx.prt]
    rw [e] at hp
    exact ⟨by unfold maxLen; omega, trivial⟩
  · simp only [Sx.cl, if_true, Bool.and_eq_true, decide_eq_true_eq] at hc
    have e : (Sx.mk w true ks).prt.length = (pks true ks).length + 2 := by simp [Sx.prt]
    rw [e] at hp
    refine ⟨by unfold maxLen; omega, wks_of fun y hy => ?_⟩
    exact IH y hy (cls_get hc.2.2 y hy) (by have := pks_mem ks true hy; omega)
termination_by SizeOf.sizeOf x
decreasing_by
  simp_wf
  have := List.sizeOf_lt_of_mem hy
  omega
def Bk (T : ByteArray) (ks : List Sx) : Prop := Sd (rd s0 T.data.toList) [(0, ks)]
theorem bk_nil : Bk ⟨#[]⟩ [] := Or.inl ⟨rfl, rfl⟩
theorem bk_put {T : ByteArray} {ks : List Sx} {y : Sx} (h : Bk T ks) (hy : y.cl 200 = true) : Bk (T ++ ⟨#[32]⟩ ++ tx y.prt) (ks ++ [y]) := by
  unfold Bk at h ⊢
  have e : (T ++ ⟨#[32]⟩ ++ tx y.prt : ByteArray).data.toList = T.data.toList ++ (32 :: y.prt) := by
    rw [ByteArray.data_append, ByteArray.data_append]
    show (T.data ++ #[32] ++ y.prt.toArray).toList = _
    simp
  rw [e, rd_app, rd_cons, h.blank rfl]
  exact rd_prt y (d := 200) (st := [(0, ks)]) hy (by simp) (by simp)
theorem bk_end {T : ByteArray} {ks : List Sx} (h : Bk T ks) (hT : T.size ≤ 65536) : pars T = (ks, 0, 0) := by
  unfold Bk at h
  unfold pars
  rw [if_neg (by omega)]
  exact h.fin
set_option maxRecDepth 20000 in
set_option maxHeartbeats 25600000 in
theorem walk_back {x : Sx} {u : Value} (t : ByteArray) {w : World} (hR : Row w (fun b => b < w.heap.size) x.ks u) (hwk : x.wk) (hg : Gl w) :
    Calls Tryd.prog 5 #[.agg #[.string x.w, .bool x.l, u], .string t] w fun e w' => e = .returned (.bool true) ∧ Below w.heap.size w w' := by
  obtain ⟨a, n, c, rfl⟩ := hR.sl
  obtain ⟨ob, hob⟩ : ∃ ob, ob = Obj.cells #[.string x.w, .bool x.l, .slice a n c] 35 := ⟨_, rfl⟩
  have hb0 : Below w.heap.size w (w.alloc ob) := (Below.refl _ _).alloc (Nat.le_refl _) _
  have HKN : Hid (Calls Tryd.prog 9 #[] (w.alloc (.cells #[.string x.w, .bool x.l, .slice a n c] 35)) fun e w' => e = .returned (.bool true) ∧ Hid (Below w.heap.size w w') ∧ Hid (w'.cell? ⟨w.heap.size, 0, none⟩ = some (.string x.w) ∧ w'.cell? ⟨w.heap.size, 1, none⟩ = some (.bool x.l) ∧ w'.cell? ⟨w.heap.size, 2, none⟩ = some (.slice a n c))) := by
    rw [← hob]
    have hg' : Gl (w.alloc ob) := hg.below hb0
    refine (known_any hg').mono ?_
    rintro e w' ⟨rfl, hb⟩
    refine ⟨rfl, hb0.trans (hb.mono (by simp)), ?_, ?_, ?_⟩
    all_goals exact keep_low hb (by simp) (by rw [hob]; simp)
  have HLI : Hid (∀ wx, Below w.heap.size w wx → Calls Tryd.prog 14 #[.agg #[.string x.w, .bool x.l, .slice a n c], .int .i64 2000, .int .i64 300] wx fun e w' => ∃ r : Int, e = .returned (.int .i64 r) ∧ 0 ≤ r ∧ r ≤ 2000 + 1152921504606846976 ∧ Hid (r ≤ 2000 → r = (x.lt : Nat)) ∧ Below wx.heap.size wx w') := fun wx hb => Light_any x (row_low hR (fun _ h => h) hb) (fun g (h : g < w.heap.size) => Nat.lt_of_lt_of_le h hb.size) hwk (by decide) (by decide) (by decide) (by decide)
  obtain ⟨P0, hP0⟩ : ∃ P, P = tx x.prt := ⟨_, rfl⟩
  obtain ⟨R, hRe⟩ : ∃ R, R = x.cl 200 := ⟨_, rfl⟩
  have HCL0 : Hid (∀ wx, Below w.heap.size w wx → Calls Tryd.prog 21 #[.agg #[.string x.w, .bool x.l, .slice a n c], .int .i64 200] wx fun e w' => e = .returned (.bool R) ∧ Below wx.heap.size wx w') := fun wx hb => by
    rw [hRe]
    exact clean_any x (d := 200) (row_low hR (fun _ h => h) hb) (fun g (h : g < w.heap.size) => Nat.lt_of_lt_of_le h hb.size) hwk (by decide)
  have HP1 : Hid (x.lt ≤ 2000 → ∀ wx, Below w.heap.size w wx → Calls Tryd.prog 15 #[.agg #[.string x.w, .bool x.l, .slice a n c]] wx fun e w' => e = .returned (.string P0) ∧ Below wx.heap.size wx w') := fun hl wx hb => by
    have h1 := prt_lt x
    rw [hP0]
    exact Print_any (row_low hR (fun _ h => h) hb) (fun g (h : g < w.heap.size) => Nat.lt_of_lt_of_le h hb.size) (by omega)
  have HPX : Hid (x.lt ≤ 2000 → P0.size ≤ 20000 ∧ (R = true → pars P0 = ([x], 0, 0))) := fun hl => by
    have h1 := prt_lt x
    rw [hP0, hRe, tx_size]
    exact ⟨by omega, fun h => pars_prt h (by omega)⟩
  have HRX : Hid (∀ wx, Below w.heap.size w wx → Row wx (fun b => b < w.heap.size) x.ks (.slice a n c)) := fun wx hb => row_low hR (fun _ h => h) hb
  clear hR hwk hg hob hb0 ob hP0 hRe
  go_enter Tryd.func5, Tryd.ntmps5
  go_wp2_with fail
  refine Calls.mono HKN.out ?_
  rintro e w1 ⟨rfl, hb1, hX⟩
  obtain ⟨q0, q1, q2⟩ := hX.out
  clear HKN
  go_wp2_with fail
  refine Calls.mono (HLI.out _ hb1.out) ?_
  rintro e w2 ⟨r, rfl, hr0, hr1, hr2, hb2⟩
  have hlt1 : w.heap.size < w1.heap.size := World.block_lt_of_cell? _ _ q0
  have q0' := keep_low hb2 hlt1 q0
  have q1' := keep_low hb2 hlt1 q1
  have q2' := keep_low hb2 hlt1 q2
  have HB2 : Hid (Below w.heap.size w w2) := hb1.out.trans (hb2.mono (Nat.le_of_lt hlt1))
  clear q0 q1 q2 hX hb2 hlt1 hb1 HLI
  by_cases hbig : 2000 < r
  · go_wp2_with fail
    go_ret
    exact ⟨rfl, HB2.out⟩
  · by_cases hlong : 6000 < t.size
    · have hlI : (6000 : Int) < (t.size : Int) := by omega
      go_wp2_with fail
      go_ret
      exact ⟨rfl, HB2.out⟩
    · have hlI : (t.size : Int) ≤ 6000 := by omega
      have hrl : x.lt ≤ 2000 := by have := hr2.out (by omega); omega
      have KP1 : Hid _ := HP1.out hrl
      obtain ⟨hPz, hPp⟩ := HPX.out hrl
      have hPI : (P0.size : Int) ≤ 65536 := by omega
      have HPP : Hid _ := hPp
      clear HP1 HPX hr2 hrl hr0 hr1 hPz hPp
      go_wp2_with fail
      refine Calls.mono (HCL0.out _ HB2.out) ?_
      rintro e w3 ⟨rfl, hb3⟩
      have hlt2 : w.heap.size < w2.heap.size := World.block_lt_of_cell? _ _ q0'
      have p0 := keep_low hb3 hlt2 q0'
      have p1 := keep_low hb3 hlt2 q1'
      have p2 := keep_low hb3 hlt2 q2'
      have HB3 : Hid (Below w.heap.size w w3) := HB2.out.trans (hb3.mono (Nat.le_of_lt hlt2))
      clear q0' q1' q2' hb3 hlt2 HB2
      cases R
      · have HBZ : Hid (Below w.heap.size w w3) := HB3
        clear p0 p1 p2
        have HPA : Hid (∀ wx, Calls Tryd.prog 10 #[.string t] wx fun ev w' => ∃ v er, ev = .returned (.tuple #[v, er]) ∧ PR wx.heap.size w' v er (pars t) ∧ Below wx.heap.size wx w') := fun wx => Parse_any t wx
        go_wp2_with fail
        refine Calls.mono (HPA.out _) ?_
        rintro e w4 ⟨v, er, rfl, hPR, hb4⟩
        have HB4 : Hid (Below w.heap.size w w4) := HBZ.out.trans (hb4.mono HBZ.out.size)
        clear hb4
        rcases hPR with ⟨hp1, hp2, rfl, D4, hR4, hD4⟩ | ⟨-, -, -, rfl, b, rfl, -, -⟩
        · have hpars : pars t = ((pars t).1, 0, 0) := Prod.ext rfl (Prod.ext hp2 hp1)
          obtain ⟨ks, hks⟩ : ∃ ks, ks = (pars t).1 := ⟨_, rfl⟩
          rw [← hks] at hpars hR4
          clear hks hp1 hp2
          obtain ⟨hcls, hwts⟩ := pars_clean hpars
          have HCK : Hid _ := cls_get hcls
          have hml := row_len hR4
          have HRow : Hid (∀ wx, Below w4.heap.size w4 wx → Row wx D4 ks v) := fun wx hb => row_low hR4 (fun g h => (hD4 g h).2) hb
          obtain ⟨a4, c4, rfl, hget4⟩ := row_get hR4
          have HG4 : Hid _ := hget4
          have HD4 : Hid (∀ b, D4 b → b < w4.heap.size) := fun b h => (hD4 b h).2
          obtain ⟨N, hN⟩ : ∃ N, N = ks.length := ⟨_, rfl⟩
          have HN : Hid _ := hN
          have HWT : Hid (wts ks ≤ 12000) := by unfold Hid; omega
          have hN9 : (N : Int) ≤ 9223372036854775807 := by unfold maxLen at hml; omega
          rw [← hN] at HRow ⊢
          clear hpars hcls hwts hml hget4 hD4 hN hR4
          go_wp2_with fail
          go_loopw [9, 10] (fun s i wv => ∃ j : Nat, j ≤ N ∧ ∃ T, s = .string T ∧ i = .int .i64 (j : Int) ∧ Hid (Bk T (ks.take j)) ∧ Hid (T.size ≤ wts (ks.take j)) ∧ Hid (Below w4.heap.size w4 wv)) (fun s i wv => N - (intOf i).toNat)
          case atStart => exact ⟨0, Nat.zero_le _, _, rfl, rfl, bk_nil, by unfold Hid; exact Nat.zero_le _, Below.refl _ _⟩
          case round =>
            obtain ⟨j, hj, T, rfl, rfl, hB, hTz, hV⟩ := hrel
            have hsv : w4.heap.size ≤ wr.heap.size := hV.out.size
            have HBr : Hid (Below w.heap.size w wr) := HB4.out.trans (hV.out.mono HB4.out.size)
            have hlm := wts_mono (ks := ks) (j := j)
            by_cases hlt2 : j < N
            · obtain ⟨y, hy⟩ : ∃ y, ks[j]? = some y := ⟨_, List.getElem?_eq_getElem (by rw [← HN.out]; exact hlt2)⟩
              obtain ⟨g, o, uy, rfl, hDg, hgl, g0, g1, g2, hRy⟩ := HG4.out j y hy
              obtain ⟨ay, ny, cy, rfl⟩ := hRy.sl
              have HC3 : Hid (∀ wx, Below w4.heap.size w4 wx → wx.cell? ⟨g, o + j * 3, none⟩ = some (.string y.w) ∧ wx.cell? ⟨g, o + j * 3 + 1, none⟩ = some (.bool y.l) ∧ wx.cell? ⟨g, o + j * 3 + 2, none⟩ = some (.slice ay ny cy)) := fun wx hb => ⟨keep_low hb hgl g0, keep_low hb hgl g1, keep_low hb hgl g2⟩
              obtain ⟨d0, d1, d2⟩ := HC3.out wr hV.out
              have hltI : (j : Int) < (N : Int) := by omega
              have hST : wts (ks.take (j + 1)) = wts (ks.take j) + (y.prt.length + 1) := by rw [take_snoc hy, wts_snoc]
              have hlm2 := wts_mono (ks := ks) (j := j + 1)
              have hyc := HCK.out y (List.mem_of_getElem? hy)
              have hw12 := HWT.out
              have hyw := cl_wk y hyc (by omega)
              have HCL : Hid (∀ wx, Below w4.heap.size w4 wx → Calls Tryd.prog 21 #[.agg #[.string y.w, .bool y.l, .slice ay ny cy], .int .i64 200] wx fun e w' => e = .returned (.bool true) ∧ Hid (Below w4.heap.size w4 w')) := fun wx hb => by
                rw [← hyc]
                refine (clean_any y (w := wx) (d := 200) (row_low hRy HD4.out hb) (fun g h => Nat.lt_of_lt_of_le (HD4.out g h) hb.size) hyw (by decide)).mono ?_
                rintro e w' ⟨rfl, hb2⟩
                exact ⟨rfl, hb.trans (hb2.mono hb.size)⟩
              obtain ⟨P, hP⟩ : ∃ P, P = tx y.prt := ⟨_, rfl⟩
              have hPs : P.size = y.prt.length := by rw [hP, tx_size]
              have HPR : Hid (∀ wx, Below w4.heap.size w4 wx → Calls Tryd.prog 15 #[.agg #[.string y.w, .bool y.l, .slice ay ny cy]] wx fun e w' => e = .returned (.string P) ∧ Hid (Below w4.heap.size w4 w')) := fun wx hb => by
                rw [hP]
                refine (Print_any (x := y) (w := wx) (row_low hRy HD4.out hb) (fun g h => Nat.lt_of_lt_of_le (HD4.out g h) hb.size) (by omega)).mono ?_
                rintro e w' ⟨rfl, hb2⟩
                exact ⟨rfl, hb.trans (hb2.mono hb.size)⟩
              have HPUT : Hid (Bk (T ++ ⟨#[32]⟩ ++ P) (ks.take (j + 1))) := by
                unfold Hid; rw [take_snoc hy, hP]; exact bk_put hB.out hyc
              have e32 : (⟨#[32]⟩ : ByteArray).size = 1 := rfl
              have HSZ : Hid ((T ++ ⟨#[32]⟩ ++ P : ByteArray).size ≤ wts (ks.take (j + 1))) := by
                unfold Hid
                have h1 := hTz.out
                rw [ByteArray.size_append, ByteArray.size_append, e32, hST]; omega
              have hz1 : ¬ (9223372036854775807 < T.size + 1) := by have h1 := hTz.out; omega
              have hz2 : ¬ (9223372036854775807 < (T ++ ⟨#[32]⟩).size + P.size) := by have h1 := hTz.out; rw [ByteArray.size_append, e32]; omega
              have hz3 : ¬ (9223372036854775807 < T.size + 1 + P.size) := by have h1 := hTz.out; omega
              clear hy g0 g1 g2 hRy hST hlm hlm2 hP hPs hyw hyc hw12 e32
              go_wp2_with fail
              refine Calls.mono (HCL.out _ hV.out) ?_
              rintro e w5 ⟨rfl, hb5⟩
              clear d0 d1 d2
              obtain ⟨d0, d1, d2⟩ := HC3.out w5 hb5.out
              go_wp2_with fail
              refine Calls.mono (HPR.out _ hb5.out) ?_
              rintro e w6 ⟨rfl, hb6⟩
              clear d0 d1 d2
              go_wp2_with fail
              exact ⟨⟨j + 1, by omega, _, rfl, rfl, HPUT, HSZ, hb6⟩, by simp [intOf]; omega⟩
            · obtain rfl : j = N := by omega
              have htk : ks.take j = ks := by rw [HN.out]; exact List.take_length
              rw [htk] at hB
              have HPK : Hid (pars T = (ks, 0, 0)) := bk_end hB.out (by have h1 := hTz.out; have h2 := HWT.out; omega)
              clear htk hB hTz hlm
              go_wp2_with fail
              refine Calls.mono (parse_ok HPK.out _) ?_
              rintro e w5 ⟨v5, rfl, ⟨D5, hR5, hD5⟩, hb5⟩
              have hB45 : Below w4.heap.size w4 w5 := hV.out.trans (hb5.mono hsv)
              have hB5 : Below w.heap.size w w5 := HB4.out.trans (hB45.mono HB4.out.size)
              have HSM : Hid (Calls Tryd.prog 13 #[.slice a4 j c4, v5] w5 fun e w' => e = .returned (.bool true) ∧ Hid (Below w.heap.size w w')) := by
                have r1 : Row w5 (fun b => D4 b ∨ D5 b) ks (.slice a4 j c4) := (HRow.out w5 hB45).keep (fun _ _ => rfl) (fun g h => Or.inl h)
                have r2 : Row w5 (fun b => D4 b ∨ D5 b) ks v5 := hR5.keep (fun _ _ => rfl) (fun g h => Or.inr h)
                refine (same_any r1 r2 (fun g h => ?_)).mono ?_
                · rcases h with h | h
                  · exact Nat.lt_of_lt_of_le (HD4.out g h) hB45.size
                  · exact (hD5 g h).2
                · rintro e w' ⟨rfl, hb⟩
                  exact ⟨rfl, hB5.trans (hb.mono hB5.size)⟩
              obtain ⟨a5, c5, rfl, -⟩ := row_get hR5
              clear hR5 hD5 hb5 hB5 hB45
              go_wp2_with fail
              refine Calls.mono HSM.out ?_
              rintro e w6 ⟨rfl, hb6⟩
              go_wp2_with fail
              go_ret
              exact ⟨rfl, hb6.out⟩
        · go_wp2_with fail
          go_ret
          exact ⟨rfl, HB4.out⟩
      · have HPK : Hid _ := HPP.out rfl
        go_wp2_with fail
        refine Calls.mono (KP1.out _ HB3.out) ?_
        rintro e w30 ⟨rfl, hb30⟩
        have hlt3 : w.heap.size < w3.heap.size := World.block_lt_of_cell? _ _ p0
        have r0 := keep_low hb30 hlt3 p0
        have r1 := keep_low hb30 hlt3 p1
        have r2 := keep_low hb30 hlt3 p2
        have HB30 : Hid (Below w.heap.size w w30) := HB3.out.trans (hb30.mono (Nat.le_of_lt hlt3))
        clear p0 p1 p2 hb30 hlt3 HB3
        go_wp2_with fail
        refine Calls.mono (KP1.out _ HB30.out) ?_
        rintro e w31 ⟨rfl, hb31⟩
        have hlt4 : w.heap.size < w30.heap.size := World.block_lt_of_cell? _ _ r0
        have p0 := keep_low hb31 hlt4 r0
        have p1 := keep_low hb31 hlt4 r1
        have p2 := keep_low hb31 hlt4 r2
        have HB31 : Hid (Below w.heap.size w w31) := HB30.out.trans (hb31.mono (Nat.le_of_lt hlt4))
        clear r0 r1 r2 hb31 hlt4 HB30
        go_wp2_with fail
        refine Calls.mono (parse_ok HPK.out _) ?_
        rintro e w32 ⟨v2, rfl, ⟨D2, hR2, hD2⟩, hb32⟩
        have hlt5 : w.heap.size < w31.heap.size := World.block_lt_of_cell? _ _ p0
        have r0 := keep_low hb32 hlt5 p0
        have r1 := keep_low hb32 hlt5 p1
        have r2 := keep_low hb32 hlt5 p2
        have HB32 : Hid (Below w.heap.size w w32) := HB31.out.trans (hb32.mono (Nat.le_of_lt hlt5))
        clear p0 p1 p2 hb32 hlt5 HB31
        obtain ⟨a2, c2, rfl, hget2⟩ := row_get hR2
        obtain ⟨g, o, uy, rfl, hDg, hgl, g0, g1, g2, hRy⟩ := hget2 0 x rfl
        obtain ⟨ay, ny, cy, rfl⟩ := hRy.sl
        rw [Nat.zero_mul, Nat.add_zero] at g0 g1 g2
        have HSA : Hid (∀ wx, Below w32.heap.size w32 wx → Calls Tryd.prog 22 #[.agg #[.string x.w, .bool x.l, .slice ay ny cy], .agg #[.string x.w, .bool x.l, .slice a n c]] wx fun e w' => e = .returned (.bool true) ∧ Below wx.heap.size wx w') := fun wx hb => by
          have s1 : Row wx (fun b => b < w32.heap.size) x.ks (.slice ay ny cy) := (row_low hRy (fun g h => (hD2 g h).2) hb).keep (fun _ _ => rfl) (fun g h => (hD2 g h).2)
          have s2 : Row wx (fun b => b < w32.heap.size) x.ks (.slice a n c) := (HRX.out wx (HB32.out.trans (hb.mono HB32.out.size))).keep (fun _ _ => rfl) (fun g (h : g < w.heap.size) => Nat.lt_of_lt_of_le h HB32.out.size)
          exact Same_any x s1 s2 (fun g (h : g < w32.heap.size) => Nat.lt_of_lt_of_le h hb.size)
        have hone : ([x] : List Sx).length = 1 := rfl
        rw [hone]
        clear hget2 hRy hR2 hD2 hone
        go_wp2_with fail
        go_region_held3 (fun y => (y.cell? ⟨w.heap.size, 0, none⟩ = some (.string x.w) ∧ y.cell? ⟨w.heap.size, 1, none⟩ = some (.bool x.l) ∧ y.cell? ⟨w.heap.size, 2, none⟩ = some (.slice a n c)) ∧ (y.cell? ⟨g, o, none⟩ = some (.string x.w) ∧ y.cell? ⟨g, o + 1, none⟩ = some (.bool x.l) ∧ y.cell? ⟨g, o + 2, none⟩ = some (.slice ay ny cy)) ∧ Below w32.heap.size w32 y)
          ((first | (obtain ⟨⟨b0, b1, b2⟩, ⟨b3, b4, b5⟩, b6⟩ := ‹(_ ∧ _ ∧ _) ∧ (_ ∧ _ ∧ _) ∧ _›; with_reducible exact ⟨⟨keep_cell hb b0, keep_cell hb b1, keep_cell hb b2⟩, ⟨keep_cell hb b3, keep_cell hb b4, keep_cell hb b5⟩, below_step b6 hb⟩) | (refine ⟨⟨?_, ?_, ?_⟩, ⟨?_, ?_, ?_⟩, ?_⟩ <;> first | (simp [go_sem, r0, r1, r2, g0, g1, g2]; done) | exact drew_below _ _)))
          ((go_at_call 22; have qq := ‹(_ ∧ _ ∧ _) ∧ (_ ∧ _ ∧ _) ∧ _›; refine (HSA.out _ qq.2.2).mono ?_; rintro e wq ⟨rfl, hb⟩))
        obtain ⟨-, -, hBq⟩ := ‹(_ ∧ _ ∧ _) ∧ (_ ∧ _ ∧ _) ∧ _›
        have HBZ : Hid (Below w.heap.size w _) := HB32.out.trans (hBq.mono HB32.out.size)
        clear hBq r0 r1 r2 g0 g1 g2 HSA
        have HPA : Hid (∀ wx, Calls Tryd.prog 10 #[.string t] wx fun ev w' => ∃ v er, ev = .returned (.tuple #[v, er]) ∧ PR wx.heap.size w' v er (pars t) ∧ Below wx.heap.size wx w') := fun wx => Parse_any t wx
        go_wp2_with fail
        refine Calls.mono (HPA.out _) ?_
        rintro e w4 ⟨v, er, rfl, hPR, hb4⟩
        have HB4 : Hid (Below w.heap.size w w4) := HBZ.out.trans (hb4.mono HBZ.out.size)
        clear hb4
        rcases hPR with ⟨hp1, hp2, rfl, D4, hR4, hD4⟩ | ⟨-, -, -, rfl, b, rfl, -, -⟩
        · have hpars : pars t = ((pars t).1, 0, 0) := Prod.ext rfl (Prod.ext hp2 hp1)
          obtain ⟨ks, hks⟩ : ∃ ks, ks = (pars t).1 := ⟨_, rfl⟩
          rw [← hks] at hpars hR4
          clear hks hp1 hp2
          obtain ⟨hcls, hwts⟩ := pars_clean hpars
          have HCK : Hid _ := cls_get hcls
          have hml := row_len hR4
          have HRow : Hid (∀ wx, Below w4.heap.size w4 wx → Row wx D4 ks v) := fun wx hb => row_low hR4 (fun g h => (hD4 g h).2) hb
          obtain ⟨a4, c4, rfl, hget4⟩ := row_get hR4
          have HG4 : Hid _ := hget4
          have HD4 : Hid (∀ b, D4 b → b < w4.heap.size) := fun b h => (hD4 b h).2
          obtain ⟨N, hN⟩ : ∃ N, N = ks.length := ⟨_, rfl⟩
          have HN : Hid _ := hN
          have HWT : Hid (wts ks ≤ 12000) := by unfold Hid; omega
          have hN9 : (N : Int) ≤ 9223372036854775807 := by unfold maxLen at hml; omega
          rw [← hN] at HRow ⊢
          clear hpars hcls hwts hml hget4 hD4 hN hR4
          go_wp2_with fail
          go_loopw [9, 10] (fun s i wv => ∃ j : Nat, j ≤ N ∧ ∃ T, s = .string T ∧ i = .int .i64 (j : Int) ∧ Hid (Bk T (ks.take j)) ∧ Hid (T.size ≤ wts (ks.take j)) ∧ Hid (Below w4.heap.size w4 wv)) (fun s i wv => N - (intOf i).toNat)
          case atStart => exact ⟨0, Nat.zero_le _, _, rfl, rfl, bk_nil, by unfold Hid; exact Nat.zero_le _, Below.refl _ _⟩
          case round =>
            obtain ⟨j, hj, T, rfl, rfl, hB, hTz, hV⟩ := hrel
            have hsv : w4.heap.size ≤ wr.heap.size := hV.out.size
            have HBr : Hid (Below w.heap.size w wr) := HB4.out.trans (hV.out.mono HB4.out.size)
            have hlm := wts_mono (ks := ks) (j := j)
            by_cases hlt2 : j < N
            · obtain ⟨y, hy⟩ : ∃ y, ks[j]? = some y := ⟨_, List.getElem?_eq_getElem (by rw [← HN.out]; exact hlt2)⟩
              obtain ⟨g, o, uy, rfl, hDg, hgl, g0, g1, g2, hRy⟩ := HG4.out j y hy
              obtain ⟨ay, ny, cy, rfl⟩ := hRy.sl
              have HC3 : Hid (∀ wx, Below w4.heap.size w4 wx → wx.cell? ⟨g, o + j * 3, none⟩ = some (.string y.w) ∧ wx.cell? ⟨g, o + j * 3 + 1, none⟩ = some (.bool y.l) ∧ wx.cell? ⟨g, o + j * 3 + 2, none⟩ = some (.slice ay ny cy)) := fun wx hb => ⟨keep_low hb hgl g0, keep_low hb hgl g1, keep_low hb hgl g2⟩
              obtain ⟨d0, d1, d2⟩ := HC3.out wr hV.out
              have hltI : (j : Int) < (N : Int) := by omega
              have hST : wts (ks.take (j + 1)) = wts (ks.take j) + (y.prt.length + 1) := by rw [take_snoc hy, wts_snoc]
              have hlm2 := wts_mono (ks := ks) (j := j + 1)
              have hyc := HCK.out y (List.mem_of_getElem? hy)
              have hw12 := HWT.out
              have hyw := cl_wk y hyc (by omega)
              have HCL : Hid (∀ wx, Below w4.heap.size w4 wx → Calls Tryd.prog 21 #[.agg #[.string y.w, .bool y.l, .slice ay ny cy], .int .i64 200] wx fun e w' => e = .returned (.bool true) ∧ Hid (Below w4.heap.size w4 w')) := fun wx hb => by
                rw [← hyc]
                refine (clean_any y (w := wx) (d := 200) (row_low hRy HD4.out hb) (fun g h => Nat.lt_of_lt_of_le (HD4.out g h) hb.size) hyw (by decide)).mono ?_
                rintro e w' ⟨rfl, hb2⟩
                exact ⟨rfl, hb.trans (hb2.mono hb.size)⟩
              obtain ⟨P, hP⟩ : ∃ P, P = tx y.prt := ⟨_, rfl⟩
              have hPs : P.size = y.prt.length := by rw [hP, tx_size]
              have HPR : Hid (∀ wx, Below w4.heap.size w4 wx → Calls Tryd.prog 15 #[.agg #[.string y.w, .bool y.l, .slice ay ny cy]] wx fun e w' => e = .returned (.string P) ∧ Hid (Below w4.heap.size w4 w')) := fun wx hb => by
                rw [hP]
                refine (Print_any (x := y) (w := wx) (row_low hRy HD4.out hb) (fun g h => Nat.lt_of_lt_of_le (HD4.out g h) hb.size) (by omega)).mono ?_
                rintro e w' ⟨rfl, hb2⟩
                exact ⟨rfl, hb.trans (hb2.mono hb.size)⟩
              have HPUT : Hid (Bk (T ++ ⟨#[32]⟩ ++ P) (ks.take (j + 1))) := by
                unfold Hid; rw [take_snoc hy, hP]; exact bk_put hB.out hyc
              have e32 : (⟨#[32]⟩ : ByteArray).size = 1 := rfl
              have HSZ : Hid ((T ++ ⟨#[32]⟩ ++ P : ByteArray).size ≤ wts (ks.take (j + 1))) := by
                unfold Hid
                have h1 := hTz.out
                rw [ByteArray.size_append, ByteArray.size_append, e32, hST]; omega
              have hz1 : ¬ (9223372036854775807 < T.size + 1) := by have h1 := hTz.out; omega
              have hz2 : ¬ (9223372036854775807 < (T ++ ⟨#[32]⟩).size + P.size) := by have h1 := hTz.out; rw [ByteArray.size_append, e32]; omega
              have hz3 : ¬ (9223372036854775807 < T.size + 1 + P.size) := by have h1 := hTz.out; omega
              clear hy g0 g1 g2 hRy hST hlm hlm2 hP hPs hyw hyc hw12 e32
              go_wp2_with fail
              refine Calls.mono (HCL.out _ hV.out) ?_
              rintro e w5 ⟨rfl, hb5⟩
              clear d0 d1 d2
              obtain ⟨d0, d1, d2⟩ := HC3.out w5 hb5.out
              go_wp2_with fail
              refine Calls.mono (HPR.out _ hb5.out) ?_
              rintro e w6 ⟨rfl, hb6⟩
              clear d0 d1 d2
              go_wp2_with fail
              exact ⟨⟨j + 1, by omega, _, rfl, rfl, HPUT, HSZ, hb6⟩, by simp [intOf]; omega⟩
            · obtain rfl : j = N := by omega
              have htk : ks.take j = ks := by rw [HN.out]; exact List.take_length
              rw [htk] at hB
              have HPK : Hid (pars T = (ks, 0, 0)) := bk_end hB.out (by have h1 := hTz.out; have h2 := HWT.out; omega)
              clear htk hB hTz hlm
              go_wp2_with fail
              refine Calls.mono (parse_ok HPK.out _) ?_
              rintro e w5 ⟨v5, rfl, ⟨D5, hR5, hD5⟩, hb5⟩
              have hB45 : Below w4.heap.size w4 w5 := hV.out.trans (hb5.mono hsv)
              have hB5 : Below w.heap.size w w5 := HB4.out.trans (hB45.mono HB4.out.size)
              have HSM : Hid (Calls Tryd.prog 13 #[.slice a4 j c4, v5] w5 fun e w' => e = .returned (.bool true) ∧ Hid (Below w.heap.size w w')) := by
                have r1 : Row w5 (fun b => D4 b ∨ D5 b) ks (.slice a4 j c4) := (HRow.out w5 hB45).keep (fun _ _ => rfl) (fun g h => Or.inl h)
                have r2 : Row w5 (fun b => D4 b ∨ D5 b) ks v5 := hR5.keep (fun _ _ => rfl) (fun g h => Or.inr h)
                refine (same_any r1 r2 (fun g h => ?_)).mono ?_
                · rcases h with h | h
                  · exact Nat.lt_of_lt_of_le (HD4.out g h) hB45.size
                  · exact (hD5 g h).2
                · rintro e w' ⟨rfl, hb⟩
                  exact ⟨rfl, hB5.trans (hb.mono hB5.size)⟩
              obtain ⟨a5, c5, rfl, -⟩ := row_get hR5
              clear hR5 hD5 hb5 hB5 hB45
              go_wp2_with fail
              refine Calls.mono HSM.out ?_
              rintro e w6 ⟨rfl, hb6⟩
              go_wp2_with fail
              go_ret
              exact ⟨rfl, hb6.out⟩
        · go_wp2_with fail
          go_ret
          exact ⟨rfl, HB4.out⟩
end Go.Proofs.YtlpojfpfindpkaaDoor
