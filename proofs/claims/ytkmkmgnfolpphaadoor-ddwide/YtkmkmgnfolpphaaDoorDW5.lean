/- Contracts (dd): a number's text. -/
import Derived.Test.YtkmkmgnfolpphaaDoorDW2
import Derived.Test.YtkmkmgnfolpphaaDoorDW4
import Derived.Test.YtkmkmgnfolpphaaDoorSXB
namespace Go.Proofs.YtkmkmgnfolpphaaDoor
open Go.RowKit
set_option linter.unusedSimpArgs false
set_option linter.unusedVariables false

theorem tab_below {P : Program} {w w' : World} {name : String} {k : IntKind} {zs : List Int} (h : Lib.TabIs P w name k zs) (hb : Below w.heap.size w w') : Lib.TabIs P w' name k zs := by
  unfold Lib.TabIs World.var? at *
  cases hg : P.globalNamed name with
  | none => simp [hg] at h
  | some g =>
    simp only [hg, Option.bind_some] at h ⊢
    have hlt : g < w.heap.size := by
      rcases Nat.lt_or_ge g w.heap.size with h' | h'
      · exact h'
      · rw [Array.getElem?_eq_none h'] at h; simp at h
    rw [hb.block g hlt]
    exact h
/-- Where a number's digits begin. -/
def topP (l : List Nat) : Nat → Nat
  | 0 => 0
  | k + 1 => if l.getD (k + 1) 0 = 0 then topP l k else k + 1
theorem topP_le (l : List Nat) : ∀ k, topP l k ≤ k
  | 0 => Nat.le_refl _
  | k + 1 => by
    unfold topP
    split
    · exact Nat.le_succ_of_le (topP_le l k)
    · exact Nat.le_refl _
def padF (x : Nat) : List UInt8 := Lib.repeatL [48] (18 - (Lib.decDigits x).length) ++ Lib.decDigits x
def textF (l : List Nat) : List UInt8 := Lib.decDigits (l.getD (topP l (l.length - 1)) 0) ++ ((l.take (topP l (l.length - 1))).reverse.flatMap padF)
theorem nDigits_le : ∀ (n u : Nat), u < 10 ^ (n + 1) → Lib.nDigits u ≤ n + 1
  | 0, u, h => by
    unfold Lib.nDigits
    rw [dif_pos (by simpa using h)]
    exact Nat.le_refl _
  | n + 1, u, h => by
    unfold Lib.nDigits
    split
    · omega
    · have h1 : u / 10 < 10 ^ (n + 1) := by
        rw [Nat.pow_succ] at h
        exact Nat.div_lt_of_lt_mul (by rw [Nat.mul_comm]; exact h)
      have := nDigits_le n (u / 10) h1
      omega
theorem dec_len {u : Nat} (h : u < E18) : (Lib.decDigits u).length ≤ 18 := by
  rw [Lib.decDigits_length]
  exact nDigits_le 17 u (by unfold E18 at h; exact h)
theorem rep_len (c : Nat) : (Lib.repeatL [48] c).length = c := by rw [Lib.repeatL_length]; simp
theorem pad_len {u : Nat} (h : u < E18) : (padF u).length = 18 := by
  have := dec_len h
  unfold padF
  rw [List.length_append, rep_len]; omega
theorem byteCells_app (l m : List UInt8) : Lib.byteCells (l ++ m) = Lib.byteCells l ++ Lib.byteCells m := by unfold Lib.byteCells; simp
theorem pads_len : ∀ (l : List Nat), Sm l → (l.flatMap padF).length = 18 * l.length
  | [], _ => rfl
  | x :: xs, h => by
    rw [List.flatMap_cons, List.length_append, pad_len (h x (by simp)), pads_len xs (fun y hy => h y (List.mem_cons_of_mem _ hy)), List.length_cons]; omega
/-- What has been written when the pieces from k on are done. -/
def accT (x : Nat) (l : List Nat) (T k : Nat) : List UInt8 := Lib.decDigits x ++ (((l.take T).drop k).reverse.flatMap padF)
theorem acc_top (x : Nat) (l : List Nat) (T : Nat) : accT x l T T = Lib.decDigits x := by
  unfold accT
  rw [List.drop_eq_nil_of_le (by rw [List.length_take]; omega)]; simp
theorem acc_step (x : Nat) (l : List Nat) {T k : Nat} (hk : k < T) (hT : T ≤ l.length) : accT x l T k = accT x l T (k + 1) ++ padF (l.getD k 0) := by
  unfold accT
  have h1 : (l.take T).drop k = l.getD k 0 :: (l.take T).drop (k + 1) := by
    rw [List.drop_eq_getElem_cons (by rw [List.length_take]; omega), List.getElem_take, List.getD_eq_getElem?_getD, List.getElem?_eq_getElem (by omega)]; rfl
  rw [h1, List.reverse_cons, List.flatMap_append, List.append_assoc]; simp
theorem acc_len {x : Nat} {l : List Nat} (hx : x < E18) (hl : Sm l) (T k : Nat) : (accT x l T k).length ≤ 18 + 18 * l.length := by
  unfold accT
  have h1 := pads_len ((l.take T).drop k).reverse (fun y hy => hl y (List.mem_of_mem_take (List.mem_of_mem_drop (List.mem_reverse.1 hy))))
  have h2 := dec_len hx
  rw [List.length_append, h1, List.length_reverse, List.length_drop, List.length_take]; omega
theorem bld_below {T e : TypeId} {B b : Nat} {bs : List Value} {W W' : World} (h : Lib.IsBuilderF T e B b bs W) (hb : Below W.heap.size W W') : Lib.IsBuilderF T e B b bs W' := by
  have key : ∀ p, Lib.BuilderAtF T e B b p bs W → Lib.BuilderAtF T e B b p bs W' := fun p h => by
    have hlt := h.lt
    obtain ⟨hB, v, hv, hown, hne⟩ := h
    exact ⟨hB, v, (hb.block b hlt).trans hv, hown.kept (row := none) ⟨hb.os, hb.tape, hb.output, hb.size, fun k hk _ => hb.block k hk⟩ (Classical.em _), hne⟩
  exact h.elim (fun x => .inl (key _ x)) (fun x => .inr (key _ x))
theorem wrS {w : World} {B b : Nat} {l m : List UInt8} {s : ByteArray} (hs : s.data.toList = m) (h : Lib.IsBuilderF 106 5 B b (Lib.byteCells l) w) (hl : l.length + m.length ≤ 900000) (hB : B ≤ w.heap.size) :
    Calls Tryd.prog 52 #[.pointer (some ⟨b, 0, none⟩), .string s] w fun e w' => (∃ v, e = .returned v) ∧ Lib.IsBuilderF 106 5 B b (Lib.byteCells (l ++ m)) w' ∧ Below B w w' := by
  have hz : s.size = m.length := by rw [← hs, Array.length_toList]; rfl
  refine (writeString_any B b _ s w h (by rw [Lib.byteCells_length, hz]; omega) hB).mono ?_
  rintro e w' ⟨rfl, h1, h2, h3⟩
  exact ⟨⟨_, rfl⟩, Or.inr (by rw [byteCells_app, ← hs]; exact h1), h2⟩
set_option maxRecDepth 20000 in
set_option maxHeartbeats 3200000 in
theorem textP {w : World} {v : Value} {l : List Nat} (h : Ud w v l) (hne : 0 < l.length) (hsm : Sm l) (hl : l.length ≤ 100) (htab : Lib.TabIs Tryd.prog w "internal/strconv.uint64pow10" .u64 Lib.pow10Tab) :
    Calls Tryd.prog 43 #[v] w fun e w' => e = .returned (.string ⟨(textF l).toArray⟩) ∧ Below w.heap.size w w' := by
  obtain ⟨r, o, c, rfl, hr, hc⟩ := h.ex
  have HC : Hid _ := hc
  have HTAB : Hid _ := htab
  have HSM : Hid (Sm l) := hsm
  obtain ⟨P, hP⟩ : ∃ P, P = l.length := ⟨_, rfl⟩
  have HP : Hid (P = l.length) := hP
  obtain ⟨T, hT⟩ : ∃ T, T = topP l (l.length - 1) := ⟨_, rfl⟩
  have HT : Hid (T = topP l (P - 1)) := by unfold Hid; rw [hT, hP]
  have HTX : Hid (textF l = Lib.decDigits (l.getD T 0) ++ ((l.take T).reverse.flatMap padF)) := by unfold Hid; rw [hT]; rfl
  have hTP : T < P := by have := topP_le l (l.length - 1); omega
  have hget : ∀ k, k < P → l.getD k 0 < E18 := fun k hk => by
    rw [List.getD_eq_getElem?_getD, List.getElem?_eq_getElem (by omega)]; exact hsm _ (List.getElem_mem _)
  have HGET : Hid _ := hget
  have hPb : P ≤ 100 := by omega
  rw [← hP]
  rw [← hP] at hne
  clear h hc htab hsm hP hl hget hT
  go_enter Tryd.func43, Tryd.ntmps43
  go_wp2_with fail
  go_loopw [3] (fun i wr => ∃ k : Nat, k < P ∧ i = .int .i64 (k : Int) ∧ Hid (topP l k = T) ∧ w = wr) (fun i wr => (intOf i).toNat)
  case atStart => exact ⟨P - 1, by omega, by go_num, HT.out.symm, rfl⟩
  case round =>
    obtain ⟨k, hk, rfl, htop, rfl⟩ := hrel
    have cx : w.cell? ⟨r, o + k, none⟩ = some (.int .u64 ((l.getD k 0 : Nat) : Int)) := HC.out k (by rw [← HP.out]; exact hk)
    have hkI : (k : Int) < (P : Int) := by omega
    have hk0 : (0 : Int) ≤ (k : Int) := by omega
    obtain ⟨x, hx⟩ : ∃ x, x = l.getD k 0 := ⟨_, rfl⟩
    rw [← hx] at cx
    by_cases hgo : 0 < k ∧ x = 0
    · obtain ⟨k, rfl⟩ : ∃ k', k = k' + 1 := ⟨k - 1, by omega⟩
      have HTK : Hid (topP l k = T) := by
        have h := htop.out
        unfold topP at h
        rw [← hx, if_pos hgo.2] at h; exact h
      have hx0 : (x : Int) = 0 := by rw [hgo.2]; rfl
      rw [hx0] at cx
      have hkk : ((k + 1 : Nat) : Int) - 1 = (k : Int) := by omega
      have hkp : (0 : Int) < ((k + 1 : Nat) : Int) := by omega
      clear hx hgo htop hx0
      go_wp2_with fail
      exact ⟨⟨k, by omega, by first | rfl | go_num, HTK.out, trivial⟩, by simp [intOf]⟩
    · have HKT : Hid (k = T) := by
        have h := htop.out
        cases k with
        | zero => exact h
        | succ k =>
          unfold topP at h
          rw [← hx, if_neg (fun e => hgo ⟨by omega, e⟩)] at h; exact h
      have hnew := heap_alloc_new w (.cells #[.pointer none, .slice none 0 0] 106)
      have hcT : (w.alloc (.cells #[.pointer none, .slice none 0 0] 106)).cell? ⟨r, o + k, none⟩ = some (.int .u64 (x : Int)) := by rw [← cx]; exact World.cell?_of_block (a := ⟨r, o + k, none⟩) (Lib.alloc_old w _ r hr)
      have hbl : Below w.heap.size w (w.alloc (.cells #[.pointer none, .slice none 0 0] 106)) := (Below.refl _ _).alloc (Nat.le_refl _) _
      have hxs : x < E18 := by rw [hx]; exact HGET.out k hk
      have HF : Hid _ := fmtU_any x (by unfold E18 at hxs; omega) (w.alloc (.cells #[.pointer none, .slice none 0 0] 106)) (tab_below HTAB.out hbl)
      have HNEW : Hid (Lib.IsBuilderF 106 5 w.heap.size w.heap.size [] (w.alloc (.cells #[.pointer none, .slice none 0 0] 106))) := Or.inl ⟨by omega, .slice none 0 0, hnew, ⟨by simp, Or.inl ⟨rfl, rfl⟩⟩, by simp [Value.ownBlock]⟩
      have HX : Hid (x = l.getD T 0) := by unfold Hid; rw [hx, HKT.out]
      have hspl : (¬ (0 : Int) < (k : Int)) ∨ ((0 : Int) < (k : Int) ∧ ¬ ((x : Int) = 0)) := by omega
      have HBL : Hid _ := hbl
      have HXS : Hid _ := hxs
      clear hx htop hgo hnew hbl hxs
      rcases hspl with hA | ⟨hA, hx0⟩
      all_goals
        go_wp2_with fail
        refine Calls.mono HF.out ?_
        rintro e w1 ⟨rfl, hb1⟩
        have HNEW1 : Hid (Lib.IsBuilderF 106 5 w.heap.size w.heap.size [] w1) := bld_below HNEW.out hb1
        have HBL1 : Hid (Below w.heap.size w w1) := HBL.out.trans (hb1.mono (by have := HBL.out.size; exact this))
        have HWR : Hid _ := wrS (s := ⟨(Lib.decDigits x).toArray⟩) (l := []) rfl HNEW1.out (by have := dec_len HXS.out; simp; omega) HBL1.out.size
        clear hb1 hcT HF HNEW HNEW1
        go_wp2_with fail
        refine Calls.mono HWR.out ?_
        rintro e w2 ⟨⟨v2, rfl⟩, hw2, hb2⟩
        have HW2 : Hid (Lib.IsBuilderF 106 5 w.heap.size w.heap.size (Lib.byteCells (accT x l T k)) w2) := by
          have ek : k = T := HKT.out
          unfold Hid
          rw [ek, acc_top]
          exact hw2
        have HBL2 : Hid (Below w.heap.size w w2) := HBL1.out.trans hb2
        clear hw2 hb2 HWR HBL1
        go_wp2_with fail
        go_loopw [5] (fun i w' => ∃ j : Nat, j ≤ k ∧ i = .int .i64 ((j : Int) - 1) ∧ Hid (Lib.IsBuilderF 106 5 w.heap.size w.heap.size (Lib.byteCells (accT x l T j)) w') ∧ Hid (Below w.heap.size w w')) (fun i w' => (intOf i + 1).toNat)
        case atStart => exact ⟨k, Nat.le_refl _, by go_num, HW2.out, HBL2.out⟩
        case round =>
          obtain ⟨j, hj, rfl, hbu, hbe⟩ := hrel
          by_cases hj0 : 0 < j
          · obtain ⟨j, rfl⟩ : ∃ j', j = j' + 1 := ⟨j - 1, by omega⟩
            have cy : wr.cell? ⟨r, o + j, none⟩ = some (.int .u64 ((l.getD j 0 : Nat) : Int)) := by rw [← HC.out j (by have := HP.out; omega)]; exact World.cell?_of_block (a := ⟨r, o + j, none⟩) (hbe.out.block r hr)
            have hyl : l.getD j 0 < E18 := HGET.out j (by omega)
            have HST : Hid (accT x l T j = accT x l T (j + 1) ++ padF (l.getD j 0)) := acc_step x l (by have := HKT.out; omega) (by have := HP.out; omega)
            obtain ⟨y, hy⟩ : ∃ y, y = l.getD j 0 := ⟨_, rfl⟩
            rw [← hy] at cy hyl
            have HST : Hid (accT x l T j = accT x l T (j + 1) ++ padF y) := by rw [hy]; exact HST.out
            have HF : Hid _ := fmtU_any y (by unfold E18 at hyl; omega) wr (tab_below HTAB.out hbe.out)
            have HDL : Hid _ := dec_len hyl
            have HAL : Hid _ := acc_len HXS.out HSM.out T (j + 1)
            obtain ⟨s, hs⟩ : ∃ s : ByteArray, s = ⟨(Lib.decDigits y).toArray⟩ := ⟨_, rfl⟩
            have HSD : Hid (s.data.toList = Lib.decDigits y) := by rw [hs]; rfl
            rw [← hs] at HF
            have hjI : (j : Int) < (P : Int) := by omega
            have e1 : ((j + 1 : Nat) : Int) - 1 = (j : Int) := by omega
            rw [e1]
            have HJ : Hid (j ≤ k) := by unfold Hid; omega
            clear hy hyl hs hj
            go_wp2_with fail
            refine Calls.mono HF.out ?_
            rintro e w3 ⟨rfl, hb3⟩
            have hz : s.size = (Lib.decDigits y).length := by rw [← HSD.out, Array.length_toList]; rfl
            have hz18 : s.size ≤ 18 := by rw [hz]; exact HDL.out
            have HBU3 : Hid _ := bld_below hbu.out hb3
            have HBE3 : Hid (Below w.heap.size w w3) := hbe.out.trans (hb3.mono hbe.out.size)
            have HRP : Hid _ := strings_Repeat ⟨#[48]⟩ (18 - s.size) w3 (by omega) (by show 1 * _ ≤ _; omega)
            have hc : ((18 - s.size : Nat) : Int) = 18 - (s.size : Int) := by omega
            rw [hc] at HRP
            clear hb3 hbu hbe hz HF cy
            go_wp2_with fail
            refine Calls.mono HRP.out ?_
            rintro e w4 ⟨rfl, hb4⟩
            have HBU4 : Hid _ := bld_below HBU3.out hb4
            have HBE4 : Hid (Below w.heap.size w w4) := HBE3.out.trans (hb4.mono HBE3.out.size)
            have HW1 : Hid _ := wrS (m := Lib.repeatL [48] (18 - s.size)) (s := ⟨(Lib.repeatL [48] (18 - s.size)).toArray⟩) rfl HBU4.out (by rw [rep_len]; have h1 : _ ≤ _ := HAL.out; have h2 : P = l.length := HP.out; omega) HBE4.out.size
            clear hb4 HBU3 HBE3 HRP HBU4
            go_wp2_with fail
            refine Calls.mono HW1.out ?_
            rintro e w5 ⟨⟨v5, rfl⟩, hbu5, hb5⟩
            have HBE5 : Hid (Below w.heap.size w w5) := HBE4.out.trans hb5
            have HW2 : Hid _ := wrS (m := Lib.decDigits y) (s := s) HSD.out hbu5 (by rw [List.length_append, rep_len]; have h1 : _ ≤ _ := HAL.out; have h2 : P = l.length := HP.out; have h3 : _ ≤ _ := HDL.out; omega) HBE5.out.size
            clear hb5 hbu5 HW1 HBE4
            go_wp2_with fail
            refine Calls.mono HW2.out ?_
            rintro e w6 ⟨⟨v6, rfl⟩, hbu6, hb6⟩
            have HBE6 : Hid (Below w.heap.size w w6) := HBE5.out.trans hb6
            have HBU6 : Hid (Lib.IsBuilderF 106 5 w.heap.size w.heap.size (Lib.byteCells (accT x l T j)) w6) := by
              have hz : s.size = (Lib.decDigits y).length := by rw [← HSD.out, Array.length_toList]; rfl
              have h6 := hbu6
              unfold Hid
              rw [HST.out]
              unfold padF
              rw [← hz, ← List.append_assoc]
              exact h6
            clear hb6 hbu6 HW2 HBE5
            go_wp2_with fail
            exact ⟨⟨j, HJ.out, by first | rfl | go_num, HBU6, HBE6⟩, by simp [intOf]⟩
          · have hjz : j = 0 := by omega
            subst hjz
            have HS : Hid _ := (bld_string w.heap.size _ (accT x l T 0) wr hbu.out hbe.out.size).mono (fun e w' hh => (⟨hh.1, hh.2.2.1⟩ : e = .returned (.string ⟨(accT x l T 0).toArray⟩) ∧ Below w.heap.size wr w'))
            have HE : Hid (accT x l T 0 = textF l) := by
              unfold Hid accT
              rw [HTX.out, HX.out, List.drop_zero]
            have e1 : (((0 : Nat) : Int)) - 1 = -1 := rfl
            rw [e1]
            clear hj0 hj hbu e1
            go_wp2_with fail
            refine Calls.mono HS.out ?_
            rintro e w7 ⟨rfl, hb7⟩
            have HBE7 : Hid (Below w.heap.size w w7) := hbe.out.trans hb7
            clear hb7 hbe HS
            go_wp2_with fail
            go_ret
            exact ⟨by rw [HE.out]; rfl, HBE7.out⟩
end Go.Proofs.YtkmkmgnfolpphaaDoor
