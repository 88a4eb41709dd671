/- Contracts (the document's and-inverter graphs): Input, And. -/
import Derived.Test.YtdmochghcmeebaaBH1
namespace Go.Proofs.Ytdmochghcmeebaa
open Go.RowKit
set_option linter.unusedSimpArgs false
set_option linter.unusedVariables false

theorem put_end {w w1 : World} {F : Nat → Prop} {g mo : Nat} {v v' : Value} {rs : List Kd} {k0 : Kd} (hx : Rx w g v mo rs) (hF : F g ∧ ∀ b, v.ownBlock = some b → F b) (hin : Inv ((0, 0) :: (rs ++ [k0]))) (hroom : rs.length < mo) (ha : PutR w w1 g v v' mo (rs ++ [k0])) :
    ∃ F', Rg w1 F' g mo (rs ++ [k0]) ∧ Ch w w1 F F' := by
  refine ⟨fun k => F k ∨ (w.heap.size ≤ k ∧ k < w1.heap.size), ⟨v', ⟨ha.hd, ha.row, hx.most, by simp; omega, hin⟩, Or.inl hF.1, fun b e => ?_⟩, ⟨ha.os, ha.tape, ha.output, ha.size, fun k h1 h2 => ha.block k h1 (fun e => h2 (by rw [e]; exact hF.1)) (fun e => h2 (hF.2 k e.symm)), fun k hk => hk⟩⟩
  rcases ha.own with q | ⟨b', q, hb⟩
  · exact Or.inl (hF.2 b (by rw [← q]; exact e))
  · right
    have := (ha.row.lt b e).2
    rw [q] at e; cases e
    exact ⟨hb, this⟩
theorem RDid.of_below {w w' : World} {F : Nat → Prop} {g mo : Nat} {rs : List Kd} {l er : Int} {e : Ending} (h : Rg w F g mo rs) (hb : e = .returned (.tuple #[.int .i64 l, .int .i64 er]) ∧ Below w.heap.size w w') : RDid w F g mo (l, er, (0, 0) :: rs) e w' := ⟨hb.1, F, rs, rfl, h.below hb.2, Ch.of_below F hb.2⟩
theorem put_did {w : World} {F : Nat → Prop} {g mo : Nat} {rs : List Kd} (h : Rg w F g mo rs) {k0 : Kd} (hin : Inv ((0, 0) :: (rs ++ [k0]))) :
    Calls Try.prog 45 #[.pointer (some ⟨g, 0, none⟩), rval k0] w (RDid w F g mo (if ((0, 0) :: rs).length = mo + 1 then (0, 81, (0, 0) :: rs) else (2 * ((((0, 0) : Kd) :: rs).length : Int), 0, ((0, 0) :: rs) ++ [k0]))) := by
  have hl := h.len
  by_cases hr : rs.length = mo
  · rw [if_pos (by simp [hr])]
    exact (put_full h hr).mono fun e w' hb => RDid.of_below h hb
  · rw [if_neg (by simp; omega)]
    obtain ⟨v, hx, f1, f2⟩ := h
    refine (put_any hx (k0 := k0) (by omega)).mono ?_
    rintro e w' ⟨rfl, v', ha⟩
    obtain ⟨F', hG, hC⟩ := put_end hx ⟨f1, f2⟩ hin (by omega) ha
    exact ⟨by simp, F', rs ++ [k0], rfl, hG, hC⟩
set_option maxHeartbeats 1600000 in
theorem rinp_any {w : World} {F : Nat → Prop} {g mo : Nat} {rs : List Kd} (h : Rg w F g mo rs) :
    Calls Try.prog 29 #[.pointer (some ⟨g, 0, none⟩)] w (RDid w F g mo (inpF mo ((0, 0) :: rs))) := by
  have HP : Hid _ := put_did h (k0 := (0, 0)) (by rw [← List.cons_append]; exact h.inv.snoc (fun e => absurd rfl e))
  have e : inpF mo ((0, 0) :: rs) = (if (((0, 0) : Kd) :: rs).length = mo + 1 then (0, 81, (0, 0) :: rs) else (2 * ((((0, 0) : Kd) :: rs).length : Int), 0, ((0, 0) :: rs) ++ [(0, 0)])) := rfl
  rw [← e] at HP
  have HP2 : Hid (Calls Try.prog 45 #[.pointer (some ⟨g, 0, none⟩), .agg #[.int .i64 0, .int .i64 0, .bool true]] w (RDid w F g mo (inpF mo ((0, 0) :: rs)))) := HP.out
  obtain ⟨R, hR⟩ : ∃ R, R = inpF mo ((0, 0) :: rs) := ⟨_, rfl⟩
  rw [← hR] at HP2 ⊢
  clear h HP e hR
  go_enter Try.func29, Try.ntmps29
  go_wp2_with fail
  refine Calls.mono HP2.out ?_
  rintro e w1 ⟨rfl, F', rs', hq, hG, hC⟩
  have HQ : Hid _ := And.intro hq (And.intro hG hC)
  clear hq hG hC HP2
  obtain ⟨q, er, ks1⟩ := R
  dsimp only at HQ ⊢
  go_wp2_with fail
  refine bodyPost_ret (v := .tuple #[.int .i64 q, .int .i64 er]) (by simp [results, Try.results29, go_sem]) rfl ?_
  exact ⟨rfl, F', rs', HQ.out⟩

set_option maxHeartbeats 1600000 in
theorem rand_no {w : World} {F : Nat → Prop} {g mo : Nat} {rs : List Kd} (h : Rg w F g mo rs) {a b : Int} (ha : w64 a) (hb : w64 b) (hv : (litB (rs.length + 1) a && litB (rs.length + 1) b) = false) :
    Calls Try.prog 30 #[.pointer (some ⟨g, 0, none⟩), .int .i64 a, .int .i64 b] w fun e w' => e = .returned (.tuple #[.int .i64 0, .int .i64 80]) ∧ Below w.heap.size w w' := by
  have H1 : Hid _ := is_any h ha
  have H2 : Hid _ := is_any h hb
  clear h ha hb
  cases la : litB (rs.length + 1) a
  · rw [la] at H1
    clear hv la H2
    go_enter Try.func30, Try.ntmps30
    go_wp2_with fail
    refine Calls.mono H1.out ?_
    rintro e wz ⟨rfl, hw⟩
    rw [hw]
    clear hw wz
    go_wp2_with fail
    refine bodyPost_ret (v := .tuple #[.int .i64 0, .int .i64 80]) (by simp [results, Try.results30, go_sem]) rfl ?_
    exact ⟨rfl, Below.refl _ _⟩
  · rw [la] at H1 hv
    rw [show litB (rs.length + 1) b = false by simpa using hv] at H2
    clear hv la
    go_enter Try.func30, Try.ntmps30
    go_wp2_with fail
    refine Calls.mono H1.out ?_
    rintro e wz ⟨rfl, hw⟩
    rw [hw]
    clear hw wz
    go_wp2_with fail
    refine Calls.mono H2.out ?_
    rintro e wz ⟨rfl, hw⟩
    rw [hw]
    clear hw wz
    go_wp2_with fail
    refine bodyPost_ret (v := .tuple #[.int .i64 0, .int .i64 80]) (by simp [results, Try.results30, go_sem]) rfl ?_
    exact ⟨rfl, Below.refl _ _⟩
theorem rboth_some {mo : Nat} {rs : List Kd} {k : Kd} (hk : k ≠ (0, 0)) {i : Nat} (hi : rs[i]? = some k) (hj : ∀ (j : Nat) (m : Kd), j < i → rs[j]? = some m → m ≠ k) : bothF mo ((0, 0) :: rs) k = (2 * ((i : Int) + 1), 0, (0, 0) :: rs) := by
  have hlt := (List.getElem?_eq_some_iff.1 hi).1
  have hf : ((0, 0) :: rs).findIdx? (fun l => decide (l = k)) = some (i + 1) := by
    rw [List.findIdx?_eq_some_iff_getElem]
    refine ⟨by simp; omega, ?_, fun j hji => ?_⟩
    · have : rs[i] = k := by rw [List.getElem?_eq_getElem hlt] at hi; exact Option.some.inj hi
      simp [this]
    · cases j with
      | zero => simp; exact fun e => hk e.symm
      | succ j =>
        have hjl : j < rs.length := by omega
        have := hj j rs[j] (by omega) (List.getElem?_eq_getElem hjl)
        simpa using this
  unfold bothF
  rw [hf]
  simp
theorem rboth_none {mo : Nat} {rs : List Kd} {k : Kd} (hk : k ≠ (0, 0)) (hj : ∀ (j : Nat) (m : Kd), rs[j]? = some m → m ≠ k) : bothF mo ((0, 0) :: rs) k = (if (((0, 0) : Kd) :: rs).length = mo + 1 then (0, 81, (0, 0) :: rs) else (2 * ((((0, 0) : Kd) :: rs).length : Int), 0, ((0, 0) :: rs) ++ [k])) := by
  have hf : ((0, 0) :: rs).findIdx? (fun l => decide (l = k)) = none := by
    rw [List.findIdx?_eq_none_iff]
    intro x hx
    rcases List.mem_cons.1 hx with rfl | hx
    · simp; exact fun e => hk e.symm
    · obtain ⟨j, hj', rfl⟩ := List.getElem_of_mem hx
      have := hj j _ (List.getElem?_eq_getElem hj')
      simpa using this
  unfold bothF
  rw [hf]

set_option maxRecDepth 20000 in
set_option maxHeartbeats 3200000 in
theorem rand_le1 {w : World} {F : Nat → Prop} {g mo : Nat} {rs : List Kd} (h : Rg w F g mo rs) {b : Nat} (hv : (litB (rs.length + 1) 0 && litB (rs.length + 1) b) = true)  :
    Calls Try.prog 30 #[.pointer (some ⟨g, 0, none⟩), .int .i64 (0 : Int), .int .i64 (b : Int)] w fun e w' => e = .returned (.tuple #[.int .i64 0, .int .i64 0]) ∧ Below w.heap.size w w' := by
  have hlen := h.len
  rw [Bool.and_eq_true] at hv
  have hva := litB_iff.1 hv.1
  have hvb := litB_iff.1 hv.2
  have H1 : Hid _ := is_any h (l := (0 : Int)) ⟨by omega, by omega⟩
  have H2 : Hid _ := is_any h (l := (b : Int)) ⟨by omega, by omega⟩
  rw [hv.1] at H1
  rw [hv.2] at H2
  have m1 : (0 : Int) ≤ (b : Int) := by omega
  have m1d : decide ((b : Int) < (0 : Int)) = false := decide_eq_false (by omega)
  clear h
  clear hv hva hvb 
  go_enter Try.func30, Try.ntmps30
  go_wp2_with fail
  refine Calls.mono H1.out ?_
  rintro e wz ⟨rfl, hw⟩
  rw [hw]
  clear hw wz
  go_wp2_with fail
  refine Calls.mono H2.out ?_
  rintro e wz ⟨rfl, hw⟩
  rw [hw]
  clear hw wz H1 H2
  go_wp2_with fail
  refine bodyPost_ret (v := .tuple #[.int .i64 0, .int .i64 0]) (by simp [results, Try.results30, go_sem]) rfl ?_
  exact ⟨rfl, Below.refl _ _⟩

set_option maxRecDepth 20000 in
set_option maxHeartbeats 3200000 in
theorem rand_le2 {w : World} {F : Nat → Prop} {g mo : Nat} {rs : List Kd} (h : Rg w F g mo rs) {a b : Nat} (hv : (litB (rs.length + 1) a && litB (rs.length + 1) b) = true) (hlt : a ≤ b) (h0 : a ≠ 0) (hT : (b : Int) = tu (a : Int)) :
    Calls Try.prog 30 #[.pointer (some ⟨g, 0, none⟩), .int .i64 (a : Int), .int .i64 (b : Int)] w fun e w' => e = .returned (.tuple #[.int .i64 0, .int .i64 0]) ∧ Below w.heap.size w w' := by
  have hlen := h.len
  rw [Bool.and_eq_true] at hv
  have hva := litB_iff.1 hv.1
  have hvb := litB_iff.1 hv.2
  have H1 : Hid _ := is_any h (l := (a : Int)) ⟨by omega, by omega⟩
  have H2 : Hid _ := is_any h (l := (b : Int)) ⟨by omega, by omega⟩
  rw [hv.1] at H1
  rw [hv.2] at H2
  have m1 : (a : Int) ≤ (b : Int) := by omega
  have m1d : decide ((b : Int) < (a : Int)) = false := decide_eq_false (by omega)
  have X1 : bits .xor .i64 (a : Int) 1 = tu (a : Int) := by rw [bits_xor, xor_int (by omega) (by omega)]
  have z2 : (tu (a : Int) == (b : Int)) = true := by simp; omega
  obtain ⟨T, eT⟩ : ∃ T, T = tu (a : Int) := ⟨_, rfl⟩
  rw [← eT] at X1 z2
  clear eT
  have z1 : ((a : Int) == 0) = false := by simp; omega
  clear h
  clear hv hva hvb hT
  go_enter Try.func30, Try.ntmps30
  go_wp2_with fail
  refine Calls.mono H1.out ?_
  rintro e wz ⟨rfl, hw⟩
  rw [hw]
  clear hw wz
  go_wp2_with fail
  refine Calls.mono H2.out ?_
  rintro e wz ⟨rfl, hw⟩
  rw [hw]
  clear hw wz H1 H2
  go_wp2_with fail
  refine bodyPost_ret (v := .tuple #[.int .i64 0, .int .i64 0]) (by simp [results, Try.results30, go_sem]) rfl ?_
  exact ⟨rfl, Below.refl _ _⟩

set_option maxRecDepth 20000 in
set_option maxHeartbeats 3200000 in
theorem rand_le3 {w : World} {F : Nat → Prop} {g mo : Nat} {rs : List Kd} (h : Rg w F g mo rs) {b : Nat} (hv : (litB (rs.length + 1) 1 && litB (rs.length + 1) b) = true) (hlt : 1 ≤ b) (hT : (b : Int) ≠ tu (1 : Int)) :
    Calls Try.prog 30 #[.pointer (some ⟨g, 0, none⟩), .int .i64 (1 : Int), .int .i64 (b : Int)] w fun e w' => e = .returned (.tuple #[.int .i64 (b : Int), .int .i64 0]) ∧ Below w.heap.size w w' := by
  have hlen := h.len
  rw [Bool.and_eq_true] at hv
  have hva := litB_iff.1 hv.1
  have hvb := litB_iff.1 hv.2
  have H1 : Hid _ := is_any h (l := (1 : Int)) ⟨by omega, by omega⟩
  have H2 : Hid _ := is_any h (l := (b : Int)) ⟨by omega, by omega⟩
  rw [hv.1] at H1
  rw [hv.2] at H2
  have m1 : (1 : Int) ≤ (b : Int) := by omega
  have m1d : decide ((b : Int) < (1 : Int)) = false := decide_eq_false (by omega)
  have X1 : bits .xor .i64 (1 : Int) 1 = tu (1 : Int) := by rw [bits_xor, xor_int (by omega) (by omega)]
  have z2 : (tu (1 : Int) == (b : Int)) = false := by simp; omega
  obtain ⟨T, eT⟩ : ∃ T, T = tu (1 : Int) := ⟨_, rfl⟩
  rw [← eT] at X1 z2
  clear eT
  clear h
  clear hv hva hvb hT
  go_enter Try.func30, Try.ntmps30
  go_wp2_with fail
  refine Calls.mono H1.out ?_
  rintro e wz ⟨rfl, hw⟩
  rw [hw]
  clear hw wz
  go_wp2_with fail
  refine Calls.mono H2.out ?_
  rintro e wz ⟨rfl, hw⟩
  rw [hw]
  clear hw wz H1 H2
  go_wp2_with fail
  refine bodyPost_ret (v := .tuple #[.int .i64 (b : Int), .int .i64 0]) (by simp [results, Try.results30, go_sem]) rfl ?_
  exact ⟨rfl, Below.refl _ _⟩

set_option maxRecDepth 20000 in
set_option maxHeartbeats 3200000 in
theorem rand_le4 {w : World} {F : Nat → Prop} {g mo : Nat} {rs : List Kd} (h : Rg w F g mo rs) {a : Nat} (hv : (litB (rs.length + 1) a && litB (rs.length + 1) a) = true) (h0 : 2 ≤ a) (hT : (a : Int) ≠ tu (a : Int)) :
    Calls Try.prog 30 #[.pointer (some ⟨g, 0, none⟩), .int .i64 (a : Int), .int .i64 (a : Int)] w fun e w' => e = .returned (.tuple #[.int .i64 (a : Int), .int .i64 0]) ∧ Below w.heap.size w w' := by
  have hlen := h.len
  rw [Bool.and_eq_true] at hv
  have hva := litB_iff.1 hv.1
  have hvb := litB_iff.1 hv.2
  have H1 : Hid _ := is_any h (l := (a : Int)) ⟨by omega, by omega⟩
  have H2 : Hid _ := is_any h (l := (a : Int)) ⟨by omega, by omega⟩
  rw [hv.1] at H1
  rw [hv.2] at H2
  have m1 : (a : Int) ≤ (a : Int) := by omega
  have m1d : decide ((a : Int) < (a : Int)) = false := decide_eq_false (by omega)
  have X1 : bits .xor .i64 (a : Int) 1 = tu (a : Int) := by rw [bits_xor, xor_int (by omega) (by omega)]
  have z2 : (tu (a : Int) == (a : Int)) = false := by simp; omega
  obtain ⟨T, eT⟩ : ∃ T, T = tu (a : Int) := ⟨_, rfl⟩
  rw [← eT] at X1 z2
  clear eT
  have z1 : ((a : Int) == 0) = false := by simp; omega
  have z3 : ((a : Int) == 1) = false := by simp; omega
  have z4 : ((a : Int) == (a : Int)) = true := by simp
  clear h
  clear hv hva hvb hT
  go_enter Try.func30, Try.ntmps30
  go_wp2_with fail
  refine Calls.mono H1.out ?_
  rintro e wz ⟨rfl, hw⟩
  rw [hw]
  clear hw wz
  go_wp2_with fail
  refine Calls.mono H2.out ?_
  rintro e wz ⟨rfl, hw⟩
  rw [hw]
  clear hw wz H1 H2
  go_wp2_with fail
  refine bodyPost_ret (v := .tuple #[.int .i64 (a : Int), .int .i64 0]) (by simp [results, Try.results30, go_sem]) rfl ?_
  exact ⟨rfl, Below.refl _ _⟩

set_option maxRecDepth 20000 in
set_option maxHeartbeats 3200000 in
theorem rand_le5 {w : World} {F : Nat → Prop} {g mo : Nat} {rs : List Kd} (h : Rg w F g mo rs) {a b : Nat} (hv : (litB (rs.length + 1) a && litB (rs.length + 1) b) = true) (hlt : a < b) (h0 : 2 ≤ a) (hT : (b : Int) ≠ tu (a : Int)) :
    Calls Try.prog 30 #[.pointer (some ⟨g, 0, none⟩), .int .i64 (a : Int), .int .i64 (b : Int)] w (RDid w F g mo (bothF mo ((0, 0) :: rs) (a, b))) := by
  have hlen := h.len
  rw [Bool.and_eq_true] at hv
  have hva := litB_iff.1 hv.1
  have hvb := litB_iff.1 hv.2
  have H1 : Hid _ := is_any h (l := (a : Int)) ⟨by omega, by omega⟩
  have H2 : Hid _ := is_any h (l := (b : Int)) ⟨by omega, by omega⟩
  rw [hv.1] at H1
  rw [hv.2] at H2
  have m1 : (a : Int) ≤ (b : Int) := by omega
  have m1d : decide ((b : Int) < (a : Int)) = false := decide_eq_false (by omega)
  have X1 : bits .xor .i64 (a : Int) 1 = tu (a : Int) := by rw [bits_xor, xor_int (by omega) (by omega)]
  have z2 : (tu (a : Int) == (b : Int)) = false := by simp; omega
  obtain ⟨T, eT⟩ : ∃ T, T = tu (a : Int) := ⟨_, rfl⟩
  rw [← eT] at X1 z2
  clear eT
  have z1 : ((a : Int) == 0) = false := by simp; omega
  have z3 : ((a : Int) == 1) = false := by simp; omega
  have z4 : ((a : Int) == (b : Int)) = false := by simp; omega
  have HG : Hid _ := h
  have hne : ((a, b) : Kd) ≠ (0, 0) := fun e => by have := congrArg Prod.fst e; dsimp only at this; omega
  have HBS : Hid (∀ i : Nat, rs[i]? = some (a, b) → (∀ (j : Nat) (m : Kd), j < i → rs[j]? = some m → m ≠ (a, b)) → bothF mo ((0, 0) :: rs) (a, b) = (2 * ((i : Int) + 1), 0, (0, 0) :: rs)) := fun i h1 h2 => rboth_some hne h1 h2
  have HBN : Hid ((∀ (j : Nat) (m : Kd), rs[j]? = some m → m ≠ (a, b)) → Calls Try.prog 45 #[.pointer (some ⟨g, 0, none⟩), .agg #[.int .i64 (a : Int), .int .i64 (b : Int), .bool false]] w (RDid w F g mo (bothF mo ((0, 0) :: rs) (a, b)))) := fun hj => by
    rw [rboth_none hne hj]
    have := put_did h (k0 := (a, b)) (by
      rw [← List.cons_append]
      refine h.inv.snoc fun _ => ⟨⟨by dsimp only; omega, by dsimp only; omega, by simp; omega, by dsimp only; unfold tu at hT; omega⟩, fun hm => ?_⟩
      rcases List.mem_cons.1 hm with e | hm
      · exact hne e
      · obtain ⟨j, hj', e⟩ := List.getElem_of_mem hm
        exact hj j _ (List.getElem?_eq_getElem hj') e)
    unfold rval at this
    rw [show decide (((a, b) : Kd) = (0, 0)) = false from decide_eq_false hne] at this
    exact this
  obtain ⟨R, eR⟩ : ∃ R, R = bothF mo ((0, 0) :: rs) (a, b) := ⟨_, rfl⟩
  rw [← eR] at HBS HBN ⊢
  obtain ⟨v, hx, -⟩ := h
  have c0 := hx.c0
  obtain ⟨va, vc, rfl, hcell⟩ := hx.sl
  have HCE : Hid _ := hcell
  obtain ⟨N, eN⟩ : ∃ N, N = rs.length := ⟨_, rfl⟩
  have HN : Hid _ := eN
  rw [← eN] at c0 hlen
  clear hx eR hcell hne eN
  clear hv hva hvb hT
  go_enter Try.func30, Try.ntmps30
  go_wp2_with fail
  refine Calls.mono H1.out ?_
  rintro e wz ⟨rfl, hw⟩
  rw [hw]
  clear hw wz
  go_wp2_with fail
  refine Calls.mono H2.out ?_
  rintro e wz ⟨rfl, hw⟩
  rw [hw]
  clear hw wz H1 H2
  go_wp2_with fail
  go_loop [8] (fun i => ∃ k : Nat, k ≤ N ∧ i = .int .i64 (k : Int) ∧ ∀ (j : Nat) (m : Kd), j < k → rs[j]? = some m → m ≠ (a, b)) (fun i => N - (intOf i).toNat)
  case atStart => exact ⟨0, Nat.zero_le _, rfl, fun j m hj => by omega⟩
  case round =>
    obtain ⟨k, hk, rfl, hz⟩ := hrel
    have HZ : Hid _ := hz
    clear hz
    have hk2 : (k : Int) < 40000 := by omega
    by_cases hkN : k < N
    · obtain ⟨kd, hkd⟩ : ∃ kd, rs[k]? = some kd := ⟨_, List.getElem?_eq_getElem (by rw [← HN.out]; exact hkN)⟩
      obtain ⟨r, rfl, hrl, hc⟩ := HCE.out.resolve_left (fun e => by have := HN.out; rw [e] at this; simp at this; omega)
      obtain ⟨d0, d1, d2⟩ := hc k kd hkd
      have hkI : (k : Int) < (N : Int) := by omega
      have HKD : Hid _ := hkd
      clear hc hkd
      obtain ⟨k1, k2⟩ := kd
      dsimp only at d0 d1 d2
      by_cases h00 : ((k1, k2) : Kd) = (0, 0)
      · rw [decide_eq_true h00] at d2
        have HNE : Hid (((k1, k2) : Kd) ≠ (a, b)) := fun e => by rw [h00] at e; have := congrArg Prod.fst e; dsimp only at this; omega
        clear h00
        go_wp2_with fail
        go_round
        case rel =>
          refine ⟨k + 1, by omega, by go_num, fun j m hj hm => ?_⟩
          by_cases e : j = k
          · subst e
            have := HKD.out.symm.trans hm
            cases this
            exact HNE.out
          · exact HZ.out j m (by omega) hm
        case measure => simp [intOf]; omega
      · rw [decide_eq_false h00] at d2
        clear h00
        by_cases q1 : k1 = a
        · subst q1
          by_cases q2 : k2 = b
          · subst q2
            have HR : Hid _ := HBS.out k HKD.out HZ.out
            have z1 : ((k1 : Int) == (k1 : Int)) = true := by simp
            have z2 : ((k2 : Int) == (k2 : Int)) = true := by simp
            clear HBS HBN HZ
            go_wp2_with fail
            refine bodyPost_ret (v := .tuple #[.int .i64 (2 * ((k : Int) + 1)), .int .i64 0]) (by simp [results, Try.results30, go_sem]) rfl ?_
            rw [HR.out]
            exact RDid.of_below HG.out ⟨rfl, Below.refl _ _⟩
          · have z1 : ((k1 : Int) == (k1 : Int)) = true := by simp
            have z2 : ((k2 : Int) == (b : Int)) = false := by simp; omega
            have HNE : Hid (((k1, k2) : Kd) ≠ (k1, b)) := fun e => by have := congrArg Prod.snd e; dsimp only at this; omega
            clear q2
            go_wp2_with fail
            go_round
            case rel =>
              refine ⟨k + 1, by omega, by go_num, fun j m hj hm => ?_⟩
              by_cases e : j = k
              · subst e
                have := HKD.out.symm.trans hm
                cases this
                exact HNE.out
              · exact HZ.out j m (by omega) hm
            case measure => simp [intOf]; omega
        · have z1 : ((k1 : Int) == (a : Int)) = false := by simp; omega
          have HNE : Hid (((k1, k2) : Kd) ≠ (a, b)) := fun e => by have := congrArg Prod.fst e; dsimp only at this; omega
          clear q1
          go_wp2_with fail
          go_round
          case rel =>
            refine ⟨k + 1, by omega, by go_num, fun j m hj hm => ?_⟩
            by_cases e : j = k
            · subst e
              have := HKD.out.symm.trans hm
              cases this
              exact HNE.out
            · exact HZ.out j m (by omega) hm
          case measure => simp [intOf]; omega
    · obtain rfl : k = N := by omega
      have hkd : decide ((k : Int) < (k : Int)) = false := decide_eq_false (by omega)
      have HP : Hid _ := HBN.out (fun j m hm => HZ.out j m (by rw [HN.out]; exact (List.getElem?_eq_some_iff.1 hm).1) hm)
      clear HBS HBN HZ HCE
      go_wp2_with fail
      refine Calls.mono HP.out ?_
      rintro e w1 ⟨rfl, F', rs', hq, hG, hC⟩
      have HQ : Hid _ := And.intro hq (And.intro hG hC)
      clear hq hG hC HP
      obtain ⟨q, er, ks1⟩ := R
      dsimp only at HQ ⊢
      go_wp2_with fail
      refine bodyPost_ret (v := .tuple #[.int .i64 q, .int .i64 er]) (by simp [results, Try.results30, go_sem]) rfl ?_
      exact ⟨rfl, F', rs', HQ.out⟩

set_option maxRecDepth 20000 in
set_option maxHeartbeats 3200000 in
theorem rand_gt1 {w : World} {F : Nat → Prop} {g mo : Nat} {rs : List Kd} (h : Rg w F g mo rs) {a : Nat} (hv : (litB (rs.length + 1) a && litB (rs.length + 1) 0) = true) (hlt : 0 < a) :
    Calls Try.prog 30 #[.pointer (some ⟨g, 0, none⟩), .int .i64 (a : Int), .int .i64 (0 : Int)] w fun e w' => e = .returned (.tuple #[.int .i64 0, .int .i64 0]) ∧ Below w.heap.size w w' := by
  have hlen := h.len
  rw [Bool.and_eq_true] at hv
  have hva := litB_iff.1 hv.1
  have hvb := litB_iff.1 hv.2
  have H1 : Hid _ := is_any h (l := (a : Int)) ⟨by omega, by omega⟩
  have H2 : Hid _ := is_any h (l := (0 : Int)) ⟨by omega, by omega⟩
  rw [hv.1] at H1
  rw [hv.2] at H2
  have m1 : (0 : Int) < (a : Int) := by omega
  clear h
  clear hv hva hvb 
  go_enter Try.func30, Try.ntmps30
  go_wp2_with fail
  refine Calls.mono H1.out ?_
  rintro e wz ⟨rfl, hw⟩
  rw [hw]
  clear hw wz
  go_wp2_with fail
  refine Calls.mono H2.out ?_
  rintro e wz ⟨rfl, hw⟩
  rw [hw]
  clear hw wz H1 H2
  go_wp2_with fail
  refine bodyPost_ret (v := .tuple #[.int .i64 0, .int .i64 0]) (by simp [results, Try.results30, go_sem]) rfl ?_
  exact ⟨rfl, Below.refl _ _⟩

set_option maxRecDepth 20000 in
set_option maxHeartbeats 3200000 in
theorem rand_gt2 {w : World} {F : Nat → Prop} {g mo : Nat} {rs : List Kd} (h : Rg w F g mo rs) {a b : Nat} (hv : (litB (rs.length + 1) a && litB (rs.length + 1) b) = true) (hlt : b < a) (h0 : b ≠ 0) (hT : (a : Int) = tu (b : Int)) :
    Calls Try.prog 30 #[.pointer (some ⟨g, 0, none⟩), .int .i64 (a : Int), .int .i64 (b : Int)] w fun e w' => e = .returned (.tuple #[.int .i64 0, .int .i64 0]) ∧ Below w.heap.size w w' := by
  have hlen := h.len
  rw [Bool.and_eq_true] at hv
  have hva := litB_iff.1 hv.1
  have hvb := litB_iff.1 hv.2
  have H1 : Hid _ := is_any h (l := (a : Int)) ⟨by omega, by omega⟩
  have H2 : Hid _ := is_any h (l := (b : Int)) ⟨by omega, by omega⟩
  rw [hv.1] at H1
  rw [hv.2] at H2
  have m1 : (b : Int) < (a : Int) := by omega
  have X1 : bits .xor .i64 (b : Int) 1 = tu (b : Int) := by rw [bits_xor, xor_int (by omega) (by omega)]
  have z2 : (tu (b : Int) == (a : Int)) = true := by simp; omega
  obtain ⟨T, eT⟩ : ∃ T, T = tu (b : Int) := ⟨_, rfl⟩
  rw [← eT] at X1 z2
  clear eT
  have z1 : ((b : Int) == 0) = false := by simp; omega
  clear h
  clear hv hva hvb hT
  go_enter Try.func30, Try.ntmps30
  go_wp2_with fail
  refine Calls.mono H1.out ?_
  rintro e wz ⟨rfl, hw⟩
  rw [hw]
  clear hw wz
  go_wp2_with fail
  refine Calls.mono H2.out ?_
  rintro e wz ⟨rfl, hw⟩
  rw [hw]
  clear hw wz H1 H2
  go_wp2_with fail
  refine bodyPost_ret (v := .tuple #[.int .i64 0, .int .i64 0]) (by simp [results, Try.results30, go_sem]) rfl ?_
  exact ⟨rfl, Below.refl _ _⟩

set_option maxRecDepth 20000 in
set_option maxHeartbeats 3200000 in
theorem rand_gt3 {w : World} {F : Nat → Prop} {g mo : Nat} {rs : List Kd} (h : Rg w F g mo rs) {a : Nat} (hv : (litB (rs.length + 1) a && litB (rs.length + 1) 1) = true) (hlt : 1 < a) (hT : (a : Int) ≠ tu (1 : Int)) :
    Calls Try.prog 30 #[.pointer (some ⟨g, 0, none⟩), .int .i64 (a : Int), .int .i64 (1 : Int)] w fun e w' => e = .returned (.tuple #[.int .i64 (a : Int), .int .i64 0]) ∧ Below w.heap.size w w' := by
  have hlen := h.len
  rw [Bool.and_eq_true] at hv
  have hva := litB_iff.1 hv.1
  have hvb := litB_iff.1 hv.2
  have H1 : Hid _ := is_any h (l := (a : Int)) ⟨by omega, by omega⟩
  have H2 : Hid _ := is_any h (l := (1 : Int)) ⟨by omega, by omega⟩
  rw [hv.1] at H1
  rw [hv.2] at H2
  have m1 : (1 : Int) < (a : Int) := by omega
  have X1 : bits .xor .i64 (1 : Int) 1 = tu (1 : Int) := by rw [bits_xor, xor_int (by omega) (by omega)]
  have z2 : (tu (1 : Int) == (a : Int)) = false := by simp; omega
  obtain ⟨T, eT⟩ : ∃ T, T = tu (1 : Int) := ⟨_, rfl⟩
  rw [← eT] at X1 z2
  clear eT
  clear h
  clear hv hva hvb hT
  go_enter Try.func30, Try.ntmps30
  go_wp2_with fail
  refine Calls.mono H1.out ?_
  rintro e wz ⟨rfl, hw⟩
  rw [hw]
  clear hw wz
  go_wp2_with fail
  refine Calls.mono H2.out ?_
  rintro e wz ⟨rfl, hw⟩
  rw [hw]
  clear hw wz H1 H2
  go_wp2_with fail
  refine bodyPost_ret (v := .tuple #[.int .i64 (a : Int), .int .i64 0]) (by simp [results, Try.results30, go_sem]) rfl ?_
  exact ⟨rfl, Below.refl _ _⟩

set_option maxRecDepth 20000 in
set_option maxHeartbeats 3200000 in
theorem rand_gt5 {w : World} {F : Nat → Prop} {g mo : Nat} {rs : List Kd} (h : Rg w F g mo rs) {a b : Nat} (hv : (litB (rs.length + 1) a && litB (rs.length + 1) b) = true) (hlt : b < a) (h0 : 2 ≤ b) (hT : (a : Int) ≠ tu (b : Int)) :
    Calls Try.prog 30 #[.pointer (some ⟨g, 0, none⟩), .int .i64 (a : Int), .int .i64 (b : Int)] w (RDid w F g mo (bothF mo ((0, 0) :: rs) (b, a))) := by
  have hlen := h.len
  rw [Bool.and_eq_true] at hv
  have hva := litB_iff.1 hv.1
  have hvb := litB_iff.1 hv.2
  have H1 : Hid _ := is_any h (l := (a : Int)) ⟨by omega, by omega⟩
  have H2 : Hid _ := is_any h (l := (b : Int)) ⟨by omega, by omega⟩
  rw [hv.1] at H1
  rw [hv.2] at H2
  have m1 : (b : Int) < (a : Int) := by omega
  have X1 : bits .xor .i64 (b : Int) 1 = tu (b : Int) := by rw [bits_xor, xor_int (by omega) (by omega)]
  have z2 : (tu (b : Int) == (a : Int)) = false := by simp; omega
  obtain ⟨T, eT⟩ : ∃ T, T = tu (b : Int) := ⟨_, rfl⟩
  rw [← eT] at X1 z2
  clear eT
  have z1 : ((b : Int) == 0) = false := by simp; omega
  have z3 : ((b : Int) == 1) = false := by simp; omega
  have z4 : ((b : Int) == (a : Int)) = false := by simp; omega
  have HG : Hid _ := h
  have hne : ((b, a) : Kd) ≠ (0, 0) := fun e => by have := congrArg Prod.fst e; dsimp only at this; omega
  have HBS : Hid (∀ i : Nat, rs[i]? = some (b, a) → (∀ (j : Nat) (m : Kd), j < i → rs[j]? = some m → m ≠ (b, a)) → bothF mo ((0, 0) :: rs) (b, a) = (2 * ((i : Int) + 1), 0, (0, 0) :: rs)) := fun i h1 h2 => rboth_some hne h1 h2
  have HBN : Hid ((∀ (j : Nat) (m : Kd), rs[j]? = some m → m ≠ (b, a)) → Calls Try.prog 45 #[.pointer (some ⟨g, 0, none⟩), .agg #[.int .i64 (b : Int), .int .i64 (a : Int), .bool false]] w (RDid w F g mo (bothF mo ((0, 0) :: rs) (b, a)))) := fun hj => by
    rw [rboth_none hne hj]
    have := put_did h (k0 := (b, a)) (by
      rw [← List.cons_append]
      refine h.inv.snoc fun _ => ⟨⟨by dsimp only; omega, by dsimp only; omega, by simp; omega, by dsimp only; unfold tu at hT; omega⟩, fun hm => ?_⟩
      rcases List.mem_cons.1 hm with e | hm
      · exact hne e
      · obtain ⟨j, hj', e⟩ := List.getElem_of_mem hm
        exact hj j _ (List.getElem?_eq_getElem hj') e)
    unfold rval at this
    rw [show decide (((b, a) : Kd) = (0, 0)) = false from decide_eq_false hne] at this
    exact this
  obtain ⟨R, eR⟩ : ∃ R, R = bothF mo ((0, 0) :: rs) (b, a) := ⟨_, rfl⟩
  rw [← eR] at HBS HBN ⊢
  obtain ⟨v, hx, -⟩ := h
  have c0 := hx.c0
  obtain ⟨va, vc, rfl, hcell⟩ := hx.sl
  have HCE : Hid _ := hcell
  obtain ⟨N, eN⟩ : ∃ N, N = rs.length := ⟨_, rfl⟩
  have HN : Hid _ := eN
  rw [← eN] at c0 hlen
  clear hx eR hcell hne eN
  clear hv hva hvb hT
  go_enter Try.func30, Try.ntmps30
  go_wp2_with fail
  refine Calls.mono H1.out ?_
  rintro e wz ⟨rfl, hw⟩
  rw [hw]
  clear hw wz
  go_wp2_with fail
  refine Calls.mono H2.out ?_
  rintro e wz ⟨rfl, hw⟩
  rw [hw]
  clear hw wz H1 H2
  go_wp2_with fail
  go_loop [8] (fun i => ∃ k : Nat, k ≤ N ∧ i = .int .i64 (k : Int) ∧ ∀ (j : Nat) (m : Kd), j < k → rs[j]? = some m → m ≠ (b, a)) (fun i => N - (intOf i).toNat)
  case atStart => exact ⟨0, Nat.zero_le _, rfl, fun j m hj => by omega⟩
  case round =>
    obtain ⟨k, hk, rfl, hz⟩ := hrel
    have HZ : Hid _ := hz
    clear hz
    have hk2 : (k : Int) < 40000 := by omega
    by_cases hkN : k < N
    · obtain ⟨kd, hkd⟩ : ∃ kd, rs[k]? = some kd := ⟨_, List.getElem?_eq_getElem (by rw [← HN.out]; exact hkN)⟩
      obtain ⟨r, rfl, hrl, hc⟩ := HCE.out.resolve_left (fun e => by have := HN.out; rw [e] at this; simp at this; omega)
      obtain ⟨d0, d1, d2⟩ := hc k kd hkd
      have hkI : (k : Int) < (N : Int) := by omega
      have HKD : Hid _ := hkd
      clear hc hkd
      obtain ⟨k1, k2⟩ := kd
      dsimp only at d0 d1 d2
      by_cases h00 : ((k1, k2) : Kd) = (0, 0)
      · rw [decide_eq_true h00] at d2
        have HNE : Hid (((k1, k2) : Kd) ≠ (b, a)) := fun e => by rw [h00] at e; have := congrArg Prod.fst e; dsimp only at this; omega
        clear h00
        go_wp2_with fail
        go_round
        case rel =>
          refine ⟨k + 1, by omega, by go_num, fun j m hj hm => ?_⟩
          by_cases e : j = k
          · subst e
            have := HKD.out.symm.trans hm
            cases this
            exact HNE.out
          · exact HZ.out j m (by omega) hm
        case measure => simp [intOf]; omega
      · rw [decide_eq_false h00] at d2
        clear h00
        by_cases q1 : k1 = b
        · subst q1
          by_cases q2 : k2 = a
          · subst q2
            have HR : Hid _ := HBS.out k HKD.out HZ.out
            have z1 : ((k1 : Int) == (k1 : Int)) = true := by simp
            have z2 : ((k2 : Int) == (k2 : Int)) = true := by simp
            clear HBS HBN HZ
            go_wp2_with fail
            refine bodyPost_ret (v := .tuple #[.int .i64 (2 * ((k : Int) + 1)), .int .i64 0]) (by simp [results, Try.results30, go_sem]) rfl ?_
            rw [HR.out]
            exact RDid.of_below HG.out ⟨rfl, Below.refl _ _⟩
          · have z1 : ((k1 : Int) == (k1 : Int)) = true := by simp
            have z2 : ((k2 : Int) == (a : Int)) = false := by simp; omega
            have HNE : Hid (((k1, k2) : Kd) ≠ (k1, a)) := fun e => by have := congrArg Prod.snd e; dsimp only at this; omega
            clear q2
            go_wp2_with fail
            go_round
            case rel =>
              refine ⟨k + 1, by omega, by go_num, fun j m hj hm => ?_⟩
              by_cases e : j = k
              · subst e
                have := HKD.out.symm.trans hm
                cases this
                exact HNE.out
              · exact HZ.out j m (by omega) hm
            case measure => simp [intOf]; omega
        · have z1 : ((k1 : Int) == (b : Int)) = false := by simp; omega
          have HNE : Hid (((k1, k2) : Kd) ≠ (b, a)) := fun e => by have := congrArg Prod.fst e; dsimp only at this; omega
          clear q1
          go_wp2_with fail
          go_round
          case rel =>
            refine ⟨k + 1, by omega, by go_num, fun j m hj hm => ?_⟩
            by_cases e : j = k
            · subst e
              have := HKD.out.symm.trans hm
              cases this
              exact HNE.out
            · exact HZ.out j m (by omega) hm
          case measure => simp [intOf]; omega
    · obtain rfl : k = N := by omega
      have hkd : decide ((k : Int) < (k : Int)) = false := decide_eq_false (by omega)
      have HP : Hid _ := HBN.out (fun j m hm => HZ.out j m (by rw [HN.out]; exact (List.getElem?_eq_some_iff.1 hm).1) hm)
      clear HBS HBN HZ HCE
      go_wp2_with fail
      refine Calls.mono HP.out ?_
      rintro e w1 ⟨rfl, F', rs', hq, hG, hC⟩
      have HQ : Hid _ := And.intro hq (And.intro hG hC)
      clear hq hG hC HP
      obtain ⟨q, er, ks1⟩ := R
      dsimp only at HQ ⊢
      go_wp2_with fail
      refine bodyPost_ret (v := .tuple #[.int .i64 q, .int .i64 er]) (by simp [results, Try.results30, go_sem]) rfl ?_
      exact ⟨rfl, F', rs', HQ.out⟩

set_option maxHeartbeats 1600000 in
theorem rand_any {w : World} {F : Nat → Prop} {g mo : Nat} {rs : List Kd} (h : Rg w F g mo rs) {a b : Int} (ha : w64 a) (hb : w64 b) :
    Calls Try.prog 30 #[.pointer (some ⟨g, 0, none⟩), .int .i64 a, .int .i64 b] w (RDid w F g mo (andF mo ((0, 0) :: rs) a b)) := by
  unfold andF
  rw [show (((0, 0) : Kd) :: rs).length = rs.length + 1 from rfl]
  cases hv : (litB (rs.length + 1) a && litB (rs.length + 1) b)
  · rw [if_neg (by decide)]
    exact (rand_no h ha hb hv).mono fun e w' hb => RDid.of_below h hb
  · rw [if_pos rfl]
    have hv' : 0 ≤ a ∧ 0 ≤ b := by
      simp [litB] at hv
      omega
    clear ha hb
    obtain ⟨A, rfl⟩ : ∃ A : Nat, a = (A : Int) := ⟨a.toNat, by omega⟩
    obtain ⟨B, rfl⟩ : ∃ B : Nat, b = (B : Int) := ⟨b.toNat, by omega⟩
    by_cases hlt : A ≤ B
    · rw [show min (A : Int) (B : Int) = A by omega, show max (A : Int) (B : Int) = B by omega, Int.toNat_natCast, Int.toNat_natCast]
      by_cases h0 : A = 0
      · rw [if_pos (Or.inl (by omega))]
        subst h0; rw [show ((0 : Nat) : Int) = 0 from rfl] at hv ⊢
        exact (rand_le1 h hv).mono fun e w' hb => RDid.of_below h hb
      · by_cases hT : (B : Int) = tu (A : Int)
        · rw [if_pos (Or.inr hT)]
          exact (rand_le2 h hv hlt h0 hT).mono fun e w' hb => RDid.of_below h hb
        · rw [if_neg (by omega)]
          by_cases h1 : A = 1
          · rw [if_pos (by omega)]
            subst h1; rw [show ((1 : Nat) : Int) = 1 from rfl] at hv hT ⊢
            exact (rand_le3 h hv hlt hT).mono fun e w' hb => RDid.of_below h hb
          · by_cases h2 : A = B
            · rw [if_pos (by omega)]
              subst h2
              exact (rand_le4 h hv (by omega) hT).mono fun e w' hb => RDid.of_below h hb
            · rw [if_neg (by omega)]
              exact rand_le5 h hv (by omega) (by omega) hT
    · rw [show min (A : Int) (B : Int) = B by omega, show max (A : Int) (B : Int) = A by omega, Int.toNat_natCast, Int.toNat_natCast]
      by_cases h0 : B = 0
      · rw [if_pos (Or.inl (by omega))]
        subst h0; rw [show ((0 : Nat) : Int) = 0 from rfl] at hv ⊢
        exact (rand_gt1 h hv (by omega)).mono fun e w' hb => RDid.of_below h hb
      · by_cases hT : (A : Int) = tu (B : Int)
        · rw [if_pos (Or.inr hT)]
          exact (rand_gt2 h hv (by omega) h0 hT).mono fun e w' hb => RDid.of_below h hb
        · rw [if_neg (by omega)]
          by_cases h1 : B = 1
          · rw [if_pos (by omega)]
            subst h1; rw [show ((1 : Nat) : Int) = 1 from rfl] at hv hT ⊢
            exact (rand_gt3 h hv (by omega) hT).mono fun e w' hb => RDid.of_below h hb
          · rw [if_neg (by omega)]
            exact rand_gt5 h hv (by omega) (by omega) hT
end Go.Proofs.Ytdmochghcmeebaa
