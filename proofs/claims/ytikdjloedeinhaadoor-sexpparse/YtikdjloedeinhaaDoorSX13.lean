/- Bracketed texts: words, taken as the text has them; the parser's stack. -/
import Derived.Test.YtikdjloedeinhaaDoorSX12
namespace Go.Proofs.YtikdjloedeinhaaDoor
open Go.RowKit
set_option linter.unusedSimpArgs false
set_option linter.unusedVariables false

theorem Vt_barno {t : ByteArray} {f : Nat} {st : Stk} : ∀ (d j m : Nat) (a : List UInt8), t.size - j = d → 0 < m → barz (t.data.toList.drop j) m = 0 → Vt t ⟨j, st, .bar f a⟩ = ([], f, 22)
  | 0, j, m, a, hd, hm, hb => by rw [Vt_end (show t.size ≤ j by omega)]; rfl
  | d + 1, j, m, a, hd, hm, hb => by
    have h : j < t.size := by omega
    rw [drop_cons h, barz] at hb
    rw [Vt_step (s := ⟨j, st, .bar f a⟩) h]
    simp only [stA]
    by_cases h1 : (t[j]'h) = 124
    · rw [if_pos h1] at hb; omega
    · rw [if_neg h1] at hb ⊢
      by_cases h2 : (t[j]'h) = 10
      · rw [if_pos h2]; exact Vt_err _ _ rfl rfl
      · rw [if_neg h2] at hb ⊢
        exact Vt_barno d (j + 1) (m + 1) _ (by omega) (by omega) hb
theorem Vt_baryes {t : ByteArray} {f : Nat} {st : Stk} {N : Nat} (hN : 0 < N) : ∀ (d j m : Nat) (a : List UInt8), t.size - j = d → barz (t.data.toList.drop j) m = N → m < N ∧ j + (N - m) ≤ t.size ∧ Vt t ⟨j, st, .bar f a⟩ = Vt t ⟨j + (N - m), addS (wordS (a ++ cutL t j (j + (N - m)))) st, .no⟩
  | 0, j, m, a, hd, hb => by rw [drop_none (by omega)] at hb; simp [barz] at hb; omega
  | d + 1, j, m, a, hd, hb => by
    have h : j < t.size := by omega
    rw [drop_cons h, barz] at hb
    rw [Vt_step (s := ⟨j, st, .bar f a⟩) h]
    simp only [stA]
    by_cases h1 : (t[j]'h) = 124
    · rw [if_pos h1] at hb ⊢
      refine ⟨by omega, by omega, ?_⟩
      rw [show j + (N - m) = j + 1 by omega, cut_snoc h (Nat.le_refl _), cut_nil]; rfl
    · rw [if_neg h1] at hb ⊢
      by_cases h2 : (t[j]'h) = 10
      · rw [if_pos h2] at hb; omega
      · rw [if_neg h2] at hb ⊢
        obtain ⟨r1, r2, r3⟩ := Vt_baryes hN d (j + 1) (m + 1) (a ++ [t[j]'h]) (by omega) hb
        refine ⟨by omega, by omega, ?_⟩
        rw [r3, show j + 1 + (N - (m + 1)) = j + (N - m) by omega]
        have e : a ++ [t[j]'h] ++ cutL t (j + 1) (j + (N - m)) = a ++ cutL t j (j + (N - m)) := by
          rw [List.append_assoc]
          congr 1
          unfold cutL
          have hl : j < (t.data.toList.take (j + (N - m))).length := by rw [List.length_take, len_t]; omega
          rw [List.drop_eq_getElem_cons hl]
          have : (t.data.toList.take (j + (N - m)))[j] = t[j]'h := by
            rw [List.getElem_take]
            have := byte_at h
            rw [List.getElem?_eq_getElem (by rw [len_t]; exact h)] at this
            exact Option.some.inj this
          rw [this]; rfl
        rw [e]
theorem wpl_plain {t : ByteArray} : ∀ (n k : Nat), wpl (t.data.toList.drop k) = n → k ≤ t.size → plain t k (k + n) ∧ (t.size ≤ k + n ∨ ∃ h : k + n < t.size, pln (t[k + n]'h) = false)
  | 0, k, hn, hk => by
    refine ⟨fun i h1 h2 => by omega, ?_⟩
    by_cases h : k < t.size
    · right
      rw [drop_cons h, wpl] at hn
      refine ⟨h, ?_⟩
      show pln (t[k]'h) = false
      cases e : pln (t[k]'h)
      · rfl
      · rw [if_pos e] at hn; omega
    · left; omega
  | n + 1, k, hn, hk => by
    by_cases h : k < t.size
    · rw [drop_cons h, wpl] at hn
      cases e : pln (t[k]'h)
      · rw [if_neg (by rw [e]; decide)] at hn; omega
      · rw [if_pos e] at hn
        obtain ⟨p1, p2⟩ := wpl_plain (t := t) n (k + 1) (by omega) (by omega)
        refine ⟨fun i h1 h2 => ?_, ?_⟩
        · by_cases hi : i = k
          · subst hi; exact ⟨h, e⟩
          · exact p1 i (by omega) (by omega)
        · rw [show k + (n + 1) = k + 1 + n by omega]; exact p2
    · rw [drop_none (by omega)] at hn; simp [wpl] at hn
theorem Vt_noword {t : ByteArray} {k : Nat} {st : Stk} (h : k < t.size) (hb : blk (t[k]'h) = false) (h59 : ¬ t[k]'h = 59) (h40 : ¬ t[k]'h = 40) (h41 : ¬ t[k]'h = 41) (hw : wsz (t.data.toList.drop k) = 0) : Vt t ⟨k, st, .no⟩ = ([], k, 22) := by
  rw [Vt_step (s := ⟨k, st, .no⟩) h]
  simp only [stA, stN]
  rw [if_neg (by rw [hb]; decide), if_neg h59, if_neg h40, if_neg h41]
  rw [drop_cons h, wsz] at hw
  by_cases h1 : t[k]'h = 124
  · rw [if_pos h1] at hw ⊢
    exact Vt_barno _ (k + 1) 1 _ rfl (by decide) hw
  · rw [if_neg h1] at hw ⊢
    rw [wpl] at hw
    cases e : pln (t[k]'h)
    · rw [if_neg (by decide)]; exact Vt_err _ _ rfl rfl
    · rw [if_pos e] at hw; omega
theorem Vt_aword {t : ByteArray} {k n : Nat} {st : Stk} (h : k < t.size) (hw : wsz (t.data.toList.drop k) = n) (hn : 0 < n) : k + n ≤ t.size ∧ Vt t ⟨k, st, .no⟩ = Vt t ⟨k + n, addS (wordS (cutL t k (k + n))) st, .no⟩ := by
  have hr := wsz_room t k (by omega)
  rw [hw] at hr
  refine ⟨hr, ?_⟩
  rw [drop_cons h, wsz] at hw
  by_cases h1 : t[k]'h = 124
  · rw [if_pos h1] at hw
    rw [Vt_step (s := ⟨k, st, .no⟩) h]
    simp only [stA, stN]
    have hb : blk (t[k]'h) = false := by rw [h1]; rfl
    rw [if_neg (by rw [hb]; decide), if_neg (by rw [h1]; decide), if_neg (by rw [h1]; decide), if_neg (by rw [h1]; decide), if_pos h1]
    obtain ⟨r1, r2, r3⟩ := Vt_baryes (st := st) (f := k) hn _ (k + 1) 1 [t[k]'h] rfl hw
    rw [r3, show k + 1 + (n - 1) = k + n by omega]
    have e : [t[k]'h] ++ cutL t (k + 1) (k + n) = cutL t k (k + n) := by
      unfold cutL
      have hl : k < (t.data.toList.take (k + n)).length := by rw [List.length_take, len_t]; omega
      rw [List.drop_eq_getElem_cons hl]
      have : (t.data.toList.take (k + n))[k] = t[k]'h := by
        rw [List.getElem_take]
        have := byte_at h
        rw [List.getElem?_eq_getElem (by rw [len_t]; exact h)] at this
        exact Option.some.inj this
      rw [this]; rfl
    rw [e]
  · rw [if_neg h1, ← drop_cons h] at hw
    obtain ⟨p1, p2⟩ := wpl_plain n k hw (by omega)
    rw [Vt_word (by omega) hr p1]
    rcases p2 with p2 | ⟨p2, p3⟩
    · exact Vt_wend p2
    · exact Vt_wout p2 p3

theorem stN_close (p : Nat) (st : Stk) : stN p st 41 = (match st with
    | (_, ks) :: q :: r => ⟨p + 1, addS (.mk ⟨#[]⟩ true ks) (q :: r), .no⟩
    | _ => ⟨p + 1, st, .err p 21⟩) := by
  unfold stN
  rw [if_neg (by decide), if_neg (by decide), if_neg (by decide), if_pos rfl]
  rcases st with _ | ⟨a, _ | ⟨b, r⟩⟩ <;> rfl
/-- The stack of the open lists. -/
def stOf (fs : List Fm) : Stk := (fs.map fun f => (f.pl, f.ks)).reverse
theorem stOf_snoc (fs : List Fm) (f : Fm) : stOf (fs ++ [f]) = (f.pl, f.ks) :: stOf fs := by unfold stOf; simp
theorem stOf_len (fs : List Fm) : (stOf fs).length = fs.length := by unfold stOf; simp
/-- How many there are. -/
structure Bd (fs : List Fm) (k : Nat) : Prop where
  ne : fs ≠ []
  deep : fs.length ≤ 201
  many : ∀ f ∈ fs, f.es.length ≤ k ∧ f.pl ≤ k
theorem split_last {α : Type} {l : List α} (h : l ≠ []) : ∃ g a, l = g ++ [a] := ⟨l.dropLast, l.getLast h, (List.dropLast_concat_getLast h).symm⟩
theorem closeB_no {w : World} {D : Nat → Prop} {B p : Nat} {t : ByteArray} {k : Nat} {so : Value} {f : Fm} (h : Pz w D B p t k so [f]) :
    Calls Tryd.prog 53 #[.pointer (some ⟨p, 0, none⟩)] w fun ev w' => ev = .returned (.int .i64 21) ∧ w' = w := by
  obtain ⟨R, cap, rfl, -⟩ := h.os.sl (by simp)
  have HDW : Hid (Calls Tryd.prog 38 #[.pointer (some ⟨p, 0, none⟩)] w fun e w' => e = .returned (.int .i64 0) ∧ w' = w) := depth_any h.c2 (by simp)
  clear h
  go_enter Tryd.func53, Tryd.ntmps53
  go_wp2_with fail
  refine Calls.mono HDW.out ?_
  rintro ev w1 ⟨rfl, hw1⟩
  rw [hw1]
  clear hw1 w1
  go_wp2_with fail
  go_ret
  exact ⟨rfl, rfl⟩
/-- What reading one thing leaves. -/
def OneR (w w' : World) (B p : Nat) (t : ByteArray) (k : Nat) (so : Value) (fs : List Fm) (er : Nat) : Prop :=
  (er = 0 ∧ ∃ D' so' fs' k', Pz w' D' B p t k' so' fs' ∧ Bd fs' k' ∧ k < k' ∧ k' ≤ t.size ∧ Vt t ⟨k, stOf fs, .no⟩ = Vt t ⟨k', stOf fs', .no⟩) ∨ (¬ er = 0 ∧ er < 100 ∧ Cu w' p t k [so] 54 ∧ Vt t ⟨k, stOf fs, .no⟩ = ([], k, er))
set_option maxRecDepth 20000 in
set_option maxHeartbeats 6400000 in
theorem one_any {w : World} {D : Nat → Prop} {B p : Nat} {t : ByteArray} {k : Nat} {so : Value} {fs : List Fm} (h : Pz w D B p t k so fs) (hd : Bd fs k) (hB : B ≤ w.heap.size) (hk : k < t.size) (ht : t.size ≤ 65536) (hb : blk (t[k]'hk) = false) (h59 : ¬ t[k]'hk = 59) :
    Calls Tryd.prog 37 #[.pointer (some ⟨p, 0, none⟩)] w fun ev w' => ∃ er, ev = .returned (.int .i64 (er : Nat)) ∧ OneR w w' B p t k so fs er ∧ Below B w w' := by
  obtain ⟨c, hc⟩ : ∃ c, c = t[k]'hk := ⟨_, rfl⟩
  have HH : Hid (Calls Tryd.prog 46 #[.pointer (some ⟨p, 0, none⟩)] w fun e w' => e = .returned (.int .u8 (c.toNat : Int)) ∧ Al w w') := by rw [hc]; exact here_any h.cu hk
  have H : Hid _ := h
  have HDD : Hid _ := hd
  have hdp := hd.deep
  rw [← hc] at hb h59
  have HC : Hid _ := hc
  have HBB : Hid _ := hb
  have H59 : Hid _ := h59
  clear hc h hd hb h59
  by_cases h40 : c = 40
  · have HO : Hid (∀ wx, Pz wx D B p t k so fs → B ≤ wx.heap.size → Calls Tryd.prog 52 #[.pointer (some ⟨p, 0, none⟩)] wx fun ev w' => (fs.length = 201 ∧ ev = .returned (.int .i64 23) ∧ w' = wx) ∨ (¬ fs.length = 201 ∧ ev = .returned (.int .i64 0) ∧ (∃ so', Pz w' D B p t (k + 1) so' (fs ++ [⟨k, .slice none 0 0, []⟩])) ∧ Below B wx w')) := fun wx hx hBx => openB_any hx HDD.out.ne hBx hk ht hdp
    have hn40 : (c.toNat : Int) = 40 := by rw [h40]; rfl
    rw [hn40] at HH
    have H40 : Hid _ := h40
    clear hn40 h40
    go_enter Tryd.func37, Tryd.ntmps37
    go_wp2_with fail
    refine Calls.mono HH.out ?_
    rintro ev w1 ⟨rfl, ha⟩
    go_wp2_with fail
    refine Calls.mono (HO.out _ (H.out.below (ha.below _)) (by rw [ha.heap]; exact hB)) ?_
    have hV : Vt t ⟨k, stOf fs, .no⟩ = if fs.length = 201 then ([], k, 23) else Vt t ⟨k + 1, stOf (fs ++ [⟨k, .slice none 0 0, []⟩]), .no⟩ := by
      rw [Vt_step (s := ⟨k, stOf fs, .no⟩) hk]
      simp only [stA, stN]
      rw [← HC.out, H40.out, if_neg (by decide), if_neg (by decide), if_pos rfl, stOf_len]
      split
      · exact Vt_err _ _ rfl rfl
      · rw [stOf_snoc]; rfl
    have HV : Hid _ := hV
    clear hV
    rintro ev w2 (⟨hl, rfl, hw2⟩ | ⟨hl, rfl, ⟨so', hP⟩, hb2⟩)
    · have HL : Hid _ := hl
      clear hl
      go_wp2_with fail
      go_ret
      refine ⟨23, rfl, Or.inr ⟨by decide, by decide, H.out.cu.al ha, ?_⟩, ha.below _⟩
      rw [HV.out, if_pos HL.out]
    · have HL : Hid _ := hl
      have HP : Hid _ := hP
      clear hl hP
      go_wp2_with fail
      go_ret
      refine ⟨0, rfl, Or.inl ⟨rfl, _, _, _, k + 1, HP.out, ⟨by simp, ?_, ?_⟩, by omega, by omega, ?_⟩, (ha.below _).trans hb2⟩
      · rw [List.length_append]
        have h1 : ¬ fs.length = 201 := HL.out
        show fs.length + 1 ≤ 201
        omega
      · intro f hf
        rcases List.mem_append.1 hf with hf | hf
        · have := HDD.out.many f hf; omega
        · rw [List.mem_singleton.1 hf]; exact ⟨Nat.zero_le _, by show k ≤ k + 1; omega⟩
      · rw [HV.out, if_neg HL.out]
  · by_cases h41 : c = 41
    · have hn41 : (c.toNat : Int) = 41 := by rw [h41]; rfl
      rw [hn41] at HH
      have HV : Hid (∀ st, Vt t ⟨k, st, .no⟩ = Vt t (stN k st 41)) := fun st => by
        rw [Vt_step (s := ⟨k, st, .no⟩) hk, ← HC.out, h41]; rfl
      clear hn41 h40 h41
      obtain ⟨gs', c', hfs⟩ := split_last HDD.out.ne
      by_cases hg : gs' = []
      · subst hg
        have hfs' : fs = [c'] := hfs
        have HX : Hid (∀ wx, Pz wx D B p t k so fs → Calls Tryd.prog 53 #[.pointer (some ⟨p, 0, none⟩)] wx fun ev w' => ev = .returned (.int .i64 21) ∧ w' = wx) := fun wx hx => by rw [hfs'] at hx; exact closeB_no hx
        have HF : Hid _ := hfs'
        clear hfs hfs'
        go_enter Tryd.func37, Tryd.ntmps37
        go_wp2_with fail
        refine Calls.mono HH.out ?_
        rintro ev w1 ⟨rfl, ha⟩
        go_wp2_with fail
        refine Calls.mono (HX.out _ (H.out.below (ha.below _))) ?_
        rintro ev w2 ⟨rfl, hw2⟩
        go_wp2_with fail
        go_ret
        refine ⟨21, rfl, Or.inr ⟨by decide, by decide, H.out.cu.al ha, ?_⟩, ha.below _⟩
        rw [HV.out, HF.out, stN_close]
        exact Vt_err _ _ rfl rfl
      · obtain ⟨gs, f, hgs⟩ := split_last hg
        have hfs2 : fs = gs ++ [f] ++ [c'] := by rw [hfs, hgs]
        have hlen : gs.length ≤ 500 := by
          have : fs.length = gs.length + 1 + 1 := by rw [hfs2]; simp
          omega
        have hfm : f.es.length ≤ k ∧ f.pl ≤ k := HDD.out.many f (by rw [hfs2]; simp)
        have HX : Hid (∀ wx, Pz wx D B p t k so fs → B ≤ wx.heap.size → Calls Tryd.prog 53 #[.pointer (some ⟨p, 0, none⟩)] wx fun ev w' => ev = .returned (.int .i64 0) ∧ (∃ so' D' v', Pz w' D' B p t (k + 1) so' (gs ++ [⟨f.pl, v', f.es ++ [(.mk ⟨#[]⟩ true c'.ks, c'.v)]⟩])) ∧ Below B wx w') := fun wx hx hBx => by rw [hfs2] at hx; exact closeB_any hx hBx hk ht hlen (by omega)
        have HF : Hid _ := hfs2
        clear hfs hgs hfs2 hg
        go_enter Tryd.func37, Tryd.ntmps37
        go_wp2_with fail
        refine Calls.mono HH.out ?_
        rintro ev w1 ⟨rfl, ha⟩
        go_wp2_with fail
        refine Calls.mono (HX.out _ (H.out.below (ha.below _)) (by rw [ha.heap]; exact hB)) ?_
        rintro ev w2 ⟨rfl, ⟨so', D', v', hP⟩, hb2⟩
        have HP : Hid _ := hP
        clear hP
        go_wp2_with fail
        go_ret
        refine ⟨0, rfl, Or.inl ⟨rfl, _, _, _, k + 1, HP.out, ⟨by simp, ?_, ?_⟩, by omega, by omega, ?_⟩, (ha.below _).trans hb2⟩
        · rw [List.length_append]; show gs.length + 1 ≤ 201
          have : fs.length = gs.length + 1 + 1 := by rw [HF.out]; simp
          omega
        · intro g hg
          rcases List.mem_append.1 hg with hg | hg
          · have := HDD.out.many g (by rw [HF.out]; simp [hg]); omega
          · rw [List.mem_singleton.1 hg]
            refine ⟨?_, by show f.pl ≤ k + 1; omega⟩
            show (f.es ++ [_]).length ≤ k + 1
            rw [List.length_append]; show f.es.length + 1 ≤ k + 1; omega
        · rw [HV.out, HF.out, stN_close, stOf_snoc, stOf_snoc, stOf_snoc]
          simp only [addS]
          congr 3
          simp [Fm.ks]
    · have hq40 : ((c.toNat : Int) == 40) = false := by
        simp; intro e; exact h40 (UInt8.toNat_inj.1 (by show c.toNat = 40; omega))
      have hq41 : ((c.toNat : Int) == 41) = false := by
        simp; intro e; exact h41 (UInt8.toNat_inj.1 (by show c.toNat = 41; omega))
      have HNO : Hid (∀ st, wsz (t.data.toList.drop k) = 0 → Vt t ⟨k, st, .no⟩ = ([], k, 22)) := fun st hw => Vt_noword hk (by rw [← HC.out]; exact HBB.out) (by rw [← HC.out]; exact H59.out) (by rw [← HC.out]; exact h40) (by rw [← HC.out]; exact h41) hw
      have HYE : Hid (∀ st n, wsz (t.data.toList.drop k) = n → 0 < n → k + n ≤ t.size ∧ Vt t ⟨k, st, .no⟩ = Vt t ⟨k + n, addS (wordS (cutL t k (k + n))) st, .no⟩) := fun st n hw hn => Vt_aword hk hw hn
      have HW : Hid (∀ wx, Cu wx p t k [so] 54 → Calls Tryd.prog 54 #[.pointer (some ⟨p, 0, none⟩)] wx fun e w' => e = .returned (.string ⟨(cutL t k (k + wsz (t.data.toList.drop k))).toArray⟩) ∧ Cu w' p t (k + wsz (t.data.toList.drop k)) [so] 54 ∧ wx.grownBy w' (some p)) := fun wx hx => word_any hx (by omega) ht
      have hwr := wsz_room t k (by omega)
      obtain ⟨n, hn⟩ : ∃ n, n = wsz (t.data.toList.drop k) := ⟨_, rfl⟩
      rw [← hn] at HNO HYE HW hwr
      have hcl : (cutL t k (k + n)).length = n := by rw [cut_len hwr]; omega
      obtain ⟨s, hs⟩ : ∃ s : ByteArray, s = ⟨(cutL t k (k + n)).toArray⟩ := ⟨_, rfl⟩
      rw [← hs] at HW
      have hss : s.size = n := by rw [hs]; show (cutL t k (k + n)).toArray.size = n; rw [List.size_toArray]; exact hcl
      have HS : Hid _ := hs
      obtain ⟨gs, f, hfs⟩ := split_last HDD.out.ne
      have HF : Hid _ := hfs
      have hfm := HDD.out.many f (by rw [hfs]; simp)
      have hgl : gs.length ≤ 1000 := by
        have : fs.length = gs.length + 1 := by rw [hfs]; simp
        omega
      clear hn h40 h41 hcl hs hfs
      by_cases h0 : n = 0
      · subst h0
        have hse : s = ⟨#[]⟩ := by
          apply ByteArray.ext
          exact Array.eq_empty_of_size_eq_zero hss
        subst hse
        go_enter Tryd.func37, Tryd.ntmps37
        go_wp2_with fail
        refine Calls.mono HH.out ?_
        rintro ev w1 ⟨rfl, ha⟩
        go_wp2_with fail
        refine Calls.mono (HW.out _ (H.out.cu.al ha)) ?_
        rintro ev w2 ⟨rfl, hcu, hgr⟩
        go_wp2_with fail
        go_ret
        refine ⟨22, rfl, Or.inr ⟨by decide, by decide, hcu, HNO.out _ (by first | rfl | trivial)⟩, ?_⟩
        have hbp := H.out.bp
        exact (ha.below _).trans ⟨hgr.os, hgr.tape, hgr.output, hgr.size, fun b hb => hgr.block b (by rw [ha.heap]; omega) (fun e => by injection e with e; omega)⟩
      · have hsn : (s.toList == ([] : List UInt8)) = false := by
          cases e : s.toList with
          | nil =>
            have : s.toList.length = 0 := by rw [e]; rfl
            rw [ByteArray.toList_eq] at this
            rw [len_t] at this
            omega
          | cons a l => rfl
        have HAD : Hid (∀ wx k', Pz wx D B p t k' so fs → B ≤ wx.heap.size → Calls Tryd.prog 55 #[.pointer (some ⟨p, 0, none⟩), .agg #[.string s, .bool false, .slice none 0 0]] wx fun ev w' => ev = .returned (.tuple #[]) ∧ (∃ v', Pz w' D B p t k' so (gs ++ [⟨f.pl, v', f.es ++ [(.mk s false [], .slice none 0 0)]⟩])) ∧ Below B wx w') := fun wx k' hx hBx => by
          rw [HF.out] at hx
          exact add_any hx (e := (.mk s false [], .slice none 0 0)) (.nil _ _) hBx (by omega) hgl
        go_enter Tryd.func37, Tryd.ntmps37
        go_wp2_with fail
        refine Calls.mono HH.out ?_
        rintro ev w1 ⟨rfl, ha⟩
        go_wp2_with fail
        refine Calls.mono (HW.out _ (H.out.cu.al ha)) ?_
        rintro ev w2 ⟨rfl, hcu, hgr⟩
        have HP2 : Hid (Pz w2 D B p t (k + n) so fs) := (H.out.below (ha.below _)).on hcu hgr
        have hbp := H.out.bp
        have HB2 : Hid (Below B w w2) := (ha.below _).trans ⟨hgr.os, hgr.tape, hgr.output, hgr.size, fun b hb => hgr.block b (by rw [ha.heap]; omega) (fun e => by injection e with e; omega)⟩
        have hB2 : B ≤ w2.heap.size := by have := HB2.out.size; omega
        clear hcu hgr ha
        go_wp2_with fail
        refine Calls.mono (HAD.out _ _ HP2.out hB2) ?_
        rintro ev w3 ⟨rfl, ⟨v', hP3⟩, hb3⟩
        have HP3 : Hid _ := hP3
        clear hP3
        go_wp2_with fail
        go_ret
        obtain ⟨r1, r2⟩ := HYE.out (stOf fs) n rfl (by omega)
        refine ⟨0, rfl, Or.inl ⟨rfl, _, _, _, k + n, HP3.out, ⟨by simp, ?_, ?_⟩, by omega, r1, ?_⟩, HB2.out.trans hb3⟩
        · have := hdp; rw [HF.out] at this; simpa using this
        · intro g hg
          rcases List.mem_append.1 hg with hg | hg
          · have := HDD.out.many g (by rw [HF.out]; simp [hg]); omega
          · rw [List.mem_singleton.1 hg]
            refine ⟨?_, by show f.pl ≤ k + n; omega⟩
            show (f.es ++ [_]).length ≤ k + n
            rw [List.length_append]; show f.es.length + 1 ≤ k + n; omega
        · rw [r2, HF.out, stOf_snoc, stOf_snoc]
          simp only [addS]
          congr 3
          simp [Fm.ks, wordS, HS.out]
end Go.Proofs.YtikdjloedeinhaaDoor
