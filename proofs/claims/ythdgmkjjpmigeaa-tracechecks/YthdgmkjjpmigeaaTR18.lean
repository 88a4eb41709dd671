/- Contracts (traces): keep. -/
import Derived.Test.YthdgmkjjpmigeaaTR17
namespace Go.Proofs.Ythdgmkjjpmigeaa
open Go.RowKit
set_option linter.unusedSimpArgs false
set_option linter.unusedVariables false

/-- Lists that are gathered in a row of elements e (a slice each). -/
structure Ge (X : Nat) (e : TypeId) (w : World) (B : Nat) (v : Value) (C : List (List Int)) : Prop where
  ex : ∃ us, w.ownsRow B e 1 v us.length us ∧ us.length = C.length ∧ ∀ (i : Nat) u c, us[i]? = some u → C[i]? = some c → Sf w (fun q => own v q ∨ q = X) u c
theorem Ge.nil (X : Nat) (e : TypeId) (w : World) (B : Nat) : Ge X e w B (.slice none 0 0) [] := ⟨[], World.ownsRow_nil _ _ _ _, rfl, fun i u c hu => by simp at hu⟩
theorem Ge.below {X : Nat} {e : TypeId} {w w' : World} {B : Nat} {v : Value} {C : List (List Int)} (h : Ge X e w B v C) (hb : Below w.heap.size w w') : Ge X e w' B v C := by
  obtain ⟨us, h1, h2, h3⟩ := h.ex
  exact ⟨us, row_kept h1 hb.block, h2, fun i u c hu hc => (h3 i u c hu hc).below hb⟩
theorem Ge.sl {X : Nat} {e : TypeId} {w : World} {B : Nat} {v : Value} {C : List (List Int)} (h : Ge X e w B v C) : ∃ a c, v = .slice a C.length c := by
  obtain ⟨us, h1, h2, -⟩ := h.ex
  obtain ⟨a, c, e⟩ := own_slice h1
  exact ⟨a, c, by rw [e, h2]⟩
/-- One more list is gathered. -/
theorem Ge.app {X : Nat} {e : TypeId} {w w2 : World} {B : Nat} {v v' u : Value} {C : List (List Int)} {c : List Int} {o : Obj} {us : List Value} (h2 : us.length = C.length) (h3 : ∀ (i : Nat) u c, us[i]? = some u → C[i]? = some c → Sf w (fun q => own v q ∨ q = X) u c) (hu : Sf w (fun q => own v q ∨ q = X) u c) (hg : (w.alloc o).grownBy w2 v.ownBlock)
    (hrow : w2.ownsRow B e 1 v' (us.length + 1) (us ++ [u])) (hat : v'.ownBlock = v.ownBlock ∨ v'.ownBlock = some (w.alloc o).heap.size) : Ge X e w2 B v' (C ++ [c]) := by
  have hg' := grown_of hg
  have hmv : ∀ {x : Value} {y : List Int}, Sf w (fun q => own v q ∨ q = X) x y → Sf w2 (fun q => own v' q ∨ q = X) x y := fun hx => hx.kept hg'.size fun q hq hf => ⟨hg'.block q hq fun e => hf (Or.inl e.symm), fun e => by
    rcases e with e | e
    · rcases hat with e2 | e2
      · exact hf (Or.inl (e2.symm.trans e))
      · unfold own at e
        rw [e2, size_alloc'] at e
        injection e with e
        omega
    · exact hf (Or.inr e)⟩
  refine ⟨us ++ [u], by rw [List.length_append]; exact hrow, by simp [h2], fun i y c' hy hc' => ?_⟩
  by_cases hi : i < us.length
  · rw [List.getElem?_append_left hi] at hy
    rw [List.getElem?_append_left (by omega)] at hc'
    exact hmv (h3 i y c' hy hc')
  · have hil := (List.getElem?_eq_some_iff.1 hy).1
    rw [List.length_append] at hil
    have hie : i = us.length := by simp at hil; omega
    subst hie
    rw [List.getElem?_append_right (Nat.le_refl _), Nat.sub_self] at hy
    rw [h2, List.getElem?_append_right (Nat.le_refl _), Nat.sub_self] at hc'
    obtain rfl : c = c' := by simpa using hc'
    obtain rfl : u = y := by simpa using hy
    exact hmv hu
theorem Ge.lr {X : Nat} {e : TypeId} {w : World} {B : Nat} {v : Value} {C : List (List Int)} (h : Ge X e w B v C) : Lr w v C := by
  obtain ⟨us, h1, h2, h3⟩ := h.ex
  obtain ⟨a, c, hv⟩ := h.sl
  refine ⟨a, c, hv, ?_⟩
  rcases h1.2 with ⟨e, h0⟩ | ⟨g, cap, cur, e, hb, hg, hc, hm, hs, ht⟩
  · exact Or.inl (List.eq_nil_of_length_eq_zero (by omega))
  · rw [hv] at e
    injection e with e1
    refine Or.inr ⟨g, 0, e1, (Array.getElem?_eq_some_iff.1 hg).1, fun i x hx => ?_⟩
    have hi := (List.getElem?_eq_some_iff.1 hx).1
    have hiu : i < us.length := by omega
    refine ⟨us[i], ?_, (h3 i us[i] x (List.getElem?_eq_getElem hiu) hx).sr⟩
    have h6 : (cur.toList.take (us.length * 1))[i]? = some us[i] := by rw [ht]; exact List.getElem?_eq_getElem hiu
    rw [List.getElem?_take_of_lt (by omega)] at h6
    rw [Nat.zero_add]
    exact cell_of hg _ (by simpa using h6)

theorem Ge.low {X : Nat} {e : TypeId} {w : World} {B : Nat} {v : Value} {C : List (List Int)} (h : Ge X e w B v C) : ∀ q, v.ownBlock = some q → B ≤ q ∧ q < w.heap.size := fun q hq => by
  obtain ⟨us, h1, -⟩ := h.ex
  exact h1.lt q hq
theorem Sf.far {w : World} {F : Nat → Prop} {u : Value} {c : List Int} (h : Sf w F u c) {X j : Nat} (hX : F X) (v : Value) : Sf (w.setCell ⟨X, j, none⟩ v) F u c :=
  h.kept (by rw [World.size_setCell]; exact Nat.le_refl _) fun q hq hf => ⟨heap_setCell_other _ _ _ _ (fun e => hf (by rw [e]; exact hX)), hf⟩
theorem Ge.far {X : Nat} {e : TypeId} {w : World} {B : Nat} {v : Value} {C : List (List Int)} (h : Ge X e w B v C) (hv : v.ownBlock ≠ some X) (j : Nat) (x : Value) : Ge X e (w.setCell ⟨X, j, none⟩ x) B v C := by
  obtain ⟨us, h1, h2, h3⟩ := h.ex
  exact ⟨us, row_far h1 hv, h2, fun i u c hu hc => (h3 i u c hu hc).far (Or.inr rfl) x⟩
def rn1 (g : Nat) (R : List Int) (x : Int) : Int := if (g : Int) ≤ x then R.getD (x - (g : Int)).toNat 0 else x
/-- What keep has behind k rounds: the new numbers, the steps. -/
def kpS (g : Nat) (L : List (List Int)) (nd : List Bool) : Nat → List Int × List (List Int)
  | 0 => (List.replicate L.length 0, [])
  | k + 1 => if nd.getD k false then ((kpS g L nd k).1.set k ((g : Int) + ((kpS g L nd k).2.length : Int)), (kpS g L nd k).2 ++ [(L.getD k []).map (rn1 g (kpS g L nd k).1)]) else kpS g L nd k
theorem kpS_len (g : Nat) (L : List (List Int)) (nd : List Bool) : ∀ k, (kpS g L nd k).1.length = L.length ∧ (kpS g L nd k).2.length ≤ k
  | 0 => by simp [kpS]
  | k + 1 => by
    have := kpS_len g L nd k
    unfold kpS
    split
    · simp; omega
    · omega
def fmS (g : Nat) (R F : List Int) (j : Nat) : List Int := (F.take j).map (rn1 g R) ++ List.replicate (F.length - j) 0
theorem fmS_len (g : Nat) (R F : List Int) {j : Nat} (h : j ≤ F.length) : (fmS g R F j).length = F.length := by unfold fmS; simp; omega
theorem fmS_step {g : Nat} {R F : List Int} {j : Nat} {x : Int} (h : F[j]? = some x) : fmS g R F (j + 1) = (fmS g R F j).set j (rn1 g R x) := by
  have hj := (List.getElem?_eq_some_iff.1 h).1
  unfold fmS
  rw [List.take_add_one, h, show F.length - j = (F.length - (j + 1)) + 1 by omega, List.replicate_succ, List.set_append_right _ _ (by rw [List.length_map, List.length_take]; omega), List.map_append]
  simp [Nat.min_eq_left (Nat.le_of_lt hj)]
theorem fmS_end (g : Nat) (R F : List Int) : fmS g R F F.length = F.map (rn1 g R) := by unfold fmS; simp

set_option maxRecDepth 20000 in
set_option maxHeartbeats 12800000 in
theorem keep_any {w : World} {v : Value} {L : List (List Int)} (h : Lr w v L) {n : Nat} (hn : n = L.length) (hnb : n ≤ 2000) (hFl : ∀ F ∈ L, F.length ≤ 2000) {g : Nat} (hg : g ≤ 2000) (hA : Ahd g L) {N : Nat} {nd : List Bool} (hN : ∀ k, k < n → w.cell? ⟨N, k, none⟩ = some (.bool (nd.getD k false))) (hNl : N < w.heap.size) :
    Calls Try.prog 46 #[.int .i64 (g : Int), v, .slice (some ⟨N, 0, none⟩) n n] w fun ev w' => ∃ v', ev = .returned v' ∧ Lr w' v' (kpS g L nd n).2 ∧ Below w.heap.size w w' := by
  obtain ⟨ti, ht0, hz0, hz1, hz2⟩ := info_any infoStep
  have HI : Hid _ := (⟨ht0, hz0, hz1, hz2⟩ : Try.prog.info? 57 = some ti ∧ ti.zero = _ ∧ ti.size = 1 ∧ ti.bytes = 24)
  clear ht0 hz0 hz1 hz2
  have HMK : Hid (∀ (m : Nat), m ≤ 2000 → ∀ wx, (Instr.makeSlice 51 (.int .i64 (m : Int)) (.int .i64 (m : Int))).run Try.prog wx = .ok (.slice (some ⟨wx.heap.size, 0, none⟩) m m) (wx.alloc (.cells (madeCells #[.int .i64 0] m) 3))) := fun m hm wx => run_make_row' (P := Try.prog) 51 3 (.int .i64 0) 8 underInts infoInt rfl .i64 .i64 m (by omega) (by omega) wx
  have HL : Hid _ := h
  obtain ⟨a, c, rfl⟩ := h.out
  rw [← hn] at HL ⊢
  have HN : Hid _ := hn
  have HFL : Hid _ := hFl
  have HAH : Hid (Ahd g L) := hA
  have HND : Hid _ := hN
  obtain ⟨X, hX⟩ : ∃ X, X = w.heap.size := ⟨_, rfl⟩
  obtain ⟨w1, hw1⟩ : ∃ w1, w1 = w.alloc (.cells (madeCells #[.int .i64 0] n) 3) := ⟨_, rfl⟩
  have hmk1 : (Instr.makeSlice 51 (.int .i64 (n : Int)) (.int .i64 (n : Int))).run Try.prog w = .ok (.slice (some ⟨X, 0, none⟩) n n) w1 := by rw [hX, hw1]; exact HMK.out n hnb w
  have HR1 : Hid (Is' w1 w.heap.size (.slice (some ⟨X, 0, none⟩) n n) (List.replicate n 0) ∧ Below w.heap.size w w1) := by
    refine ⟨by rw [hX, hw1]; exact Is'.made w (by omega), by rw [hw1]; go_grown⟩
  have HX : Hid (w.heap.size ≤ X) := by unfold Hid; omega
  clear h hn hFl hA hN hX hw1
  go_enter Try.func46, Try.ntmps46
  go_wp2_with fail
  clear hmk1
  go_loopw [7, 19] (fun q i wr => ∃ k : Nat, k ≤ n ∧ i = .int .i64 (k : Int) ∧ Hid (Ge X 57 wr w.heap.size q (kpS g L nd k).2 ∧ Is' wr w.heap.size (.slice (some ⟨X, 0, none⟩) n n) (kpS g L nd k).1 ∧ Below w.heap.size w wr)) (fun q i wr => n - (intOf i).toNat)
  case atStart => exact ⟨0, Nat.zero_le _, rfl, Ge.nil _ _ _ _, by unfold kpS; rw [← HN.out]; exact HR1.out.1, HR1.out.2⟩
  case round =>
    obtain ⟨k, hk, rfl, hH⟩ := hrel
    obtain ⟨q, hqq⟩ : ∃ q, q = u7 := ⟨_, rfl⟩
    rw [← hqq] at hH ⊢
    clear hqq
    obtain ⟨aq, cq, hq⟩ := hH.out.1.sl
    obtain ⟨nq, hnq⟩ : ∃ n, n = (kpS g L nd k).2.length := ⟨_, rfl⟩
    rw [← hnq] at hq
    have hnqb : nq ≤ 2000 := by have := (kpS_len g L nd k).2; omega
    have HNQ : Hid _ := hnq
    subst hq
    have hz0 := hH.out.2.2.size
    clear hnq
    by_cases hlt : k < n
    · have hltI : (k : Int) < (n : Int) := by omega
      obtain ⟨F, hF⟩ : ∃ F, L[k]? = some F := ⟨_, List.getElem?_eq_getElem (by rw [← HN.out]; exact hlt)⟩
      have hFb := HFL.out F (List.mem_of_getElem? hF)
      obtain ⟨r, o, u, rfl, hcu, hSu⟩ := (HL.out.below hH.out.2.2).at' hF
      have HSW : Hid (Sr w u F) := HL.out.old hF hH.out.2.2 hcu
      obtain ⟨au, cu, hue⟩ := hSu.out
      obtain ⟨nu, hnu⟩ : ∃ n, n = F.length := ⟨_, rfl⟩
      rw [← hnu] at hue hFb
      have HNU : Hid _ := hnu
      subst hue
      have hro : r < wr.heap.size := World.block_lt_of_cell? _ _ hcu
      have hcn : wr.cell? ⟨N, k, none⟩ = some (.bool (nd.getD k false)) := bel_cell hH.out.2.2 hNl (HND.out k hlt)
      have hNr : N < wr.heap.size := Nat.lt_of_lt_of_le hNl hz0
      obtain ⟨b, hb⟩ : ∃ b, b = nd.getD k false := ⟨_, rfl⟩
      rw [← hb] at hcn
      have HAF : Hid (∀ x ∈ F, 0 ≤ x ∧ x < (g : Int) + (k : Int)) := HAH.out k F hF
      have HNX : Hid (kpS g L nd (k + 1) = if b then ((kpS g L nd k).1.set k ((g : Int) + (nq : Int)), (kpS g L nd k).2 ++ [F.map (rn1 g (kpS g L nd k).1)]) else kpS g L nd k) := by
        unfold Hid
        rw [kpS, ← hb, HNQ.out, List.getD_eq_getElem?_getD, hF]; rfl
      obtain ⟨wF, hwF⟩ : ∃ wF, wF = wr.alloc (.cells #[.slice au nu cu] 57) := ⟨_, rfl⟩
      have HBF : Hid (Below wr.heap.size wr wF ∧ wF.heap.size = wr.heap.size + 1) := ⟨by rw [hwF]; go_grown, by rw [hwF]; simp⟩
      cases b with
      | false =>
        have HN1 : Hid (kpS g L nd (k + 1) = kpS g L nd k) := HNX.out
        have HE : Hid (Ge X 57 wF w.heap.size (.slice aq nq cq) (kpS g L nd k).2 ∧ Is' wF w.heap.size (.slice (some ⟨X, 0, none⟩) n n) (kpS g L nd k).1 ∧ Below w.heap.size w wF) := ⟨hH.out.1.below HBF.out.1, row_kept hH.out.2.1 HBF.out.1.block, hH.out.2.2.trans (HBF.out.1.mono hz0)⟩
        rw [hwF] at HE
        clear hF hSu hnu hb hwF HBF
        go_wp2_with fail
        refine ⟨⟨k + 1, by omega, by go_num, by rw [HN1.out]; exact HE.out.1, by rw [HN1.out]; exact HE.out.2.1, HE.out.2.2⟩, by simp [intOf]; omega⟩
      | true =>
        have HN1 : Hid (kpS g L nd (k + 1) = ((kpS g L nd k).1.set k ((g : Int) + (nq : Int)), (kpS g L nd k).2 ++ [F.map (rn1 g (kpS g L nd k).1)])) := HNX.out
        have hmk2 := HMK.out nu (by omega) wF
        rw [hwF] at hmk2
        clear hF hSu hnu hb
        go_wp2_with fail
        obtain ⟨wQ, hwQ⟩ : ∃ wQ, wQ = wr := ⟨_, rfl⟩
        subst hwQ
        obtain ⟨Y, hY⟩ : ∃ Y, Y = wQ.heap.size + 1 := ⟨_, rfl⟩
        have HY : Hid (Y = wQ.heap.size + 1 ∧ Y = wF.heap.size) := ⟨hY, by rw [hY]; exact HBF.out.2.symm⟩
        have HM0 : Hid (Is' (wF.alloc (.cells (madeCells #[.int .i64 0] nu) 3)) Y (.slice (some ⟨Y, 0, none⟩) nu nu) (fmS g (kpS g L nd k).1 F 0) ∧ Below Y wF (wF.alloc (.cells (madeCells #[.int .i64 0] nu) 3))) := by
          have e : fmS g (kpS g L nd k).1 F 0 = List.replicate nu 0 := by unfold fmS; simp [HNU.out]
          have h1 := Is'.made wF (n := nu) (by omega)
          rw [e, HY.out.2]
          exact ⟨h1, by go_grown⟩
        rw [← hwF, ← hY]
        clear hmk2 hwF hY hcu hcn
        go_loopw [36] (fun i wr => ∃ j : Nat, j ≤ nu ∧ i = .int .i64 (j : Int) ∧ Hid (Is' wr Y (.slice (some ⟨Y, 0, none⟩) nu nu) (fmS g (kpS g L nd k).1 F j) ∧ Below Y wF wr)) (fun i wr => nu - (intOf i).toNat)
        case atStart => exact ⟨0, Nat.zero_le _, rfl, HM0.out⟩
        case round =>
          obtain ⟨j, hj, rfl, hJ⟩ := hrel
          have HBQ : Hid (Below wQ.heap.size wQ wr) := HBF.out.1.trans (hJ.out.2.mono (by have := HY.out.1; omega))
          have HBW : Hid (Below w.heap.size w wr) := hH.out.2.2.trans (HBQ.out.mono hz0)
          by_cases hlt2 : j < nu
          · have hltJ : (j : Int) < (nu : Int) := by omega
            have hjl : j < F.length := by rw [← HNU.out]; exact hlt2
            obtain ⟨r2, o2, rfl, hcj⟩ := HSW.out.at' HBW.out hjl
            have hr2 : r2 < wr.heap.size := World.block_lt_of_cell? _ _ hcj
            obtain ⟨hx0, hx1⟩ := HAF.out _ (getD_in hjl)
            have HFS : Hid _ := fmS_step (g := g) (R := (kpS g L nd k).1) (at_getD hjl)
            obtain ⟨x, hx⟩ : ∃ x : Nat, F.getD j 0 = (x : Int) := ⟨(F.getD j 0).toNat, by omega⟩
            rw [hx] at hcj hx0 hx1 HFS
            obtain ⟨⟨z0, hcz⟩, hfz, hpz⟩ := Is'.put hJ.out.1 (j := j) (by rw [fmS_len _ _ _ (by omega)]; exact hjl)
            have hYl : Y < wr.heap.size := World.block_lt_of_cell? _ _ hcz
            clear hx hjl
            by_cases hge : g ≤ x
            · have hgeI : (g : Int) ≤ (x : Int) := by omega
              obtain ⟨y, hy⟩ : ∃ y, y = x - g := ⟨_, rfl⟩
              have hyI : (x : Int) - (g : Int) = (y : Int) := by omega
              have hyn : y < n := by omega
              have hynI : (y : Int) < (n : Int) := by omega
              obtain ⟨r3, o3, e3, hcy⟩ := (Is'.sr hH.out.2.1).at' HBQ.out (k := y) (by rw [(kpS_len g L nd k).1, ← HN.out]; exact hyn)
              injection e3 with e3
              injection e3 with e3 e4
              subst e3 e4
              rw [Nat.zero_add] at hcy
              have hXl : X < wr.heap.size := World.block_lt_of_cell? _ _ hcy
              obtain ⟨t, ht⟩ : ∃ t, t = (kpS g L nd k).1.getD y 0 := ⟨_, rfl⟩
              rw [← ht] at hcy
              have HE : Hid (Is' (wr.setCell ⟨Y, j, none⟩ (.int .i64 t)) Y (.slice (some ⟨Y, 0, none⟩) nu nu) (fmS g (kpS g L nd k).1 F (j + 1)) ∧ Below Y wF (wr.setCell ⟨Y, j, none⟩ (.int .i64 t))) := by
                obtain ⟨p1, p2⟩ := hpz t
                refine ⟨?_, hJ.out.2.trans p2⟩
                rw [HFS.out]
                unfold rn1
                rw [if_pos hgeI, hyI, Int.toNat_natCast, ← ht]; exact p1
              clear hpz hy ht
              go_wp2_with fail
              refine ⟨⟨j + 1, by omega, by go_num, HE.out⟩, by simp [intOf]; omega⟩
            · have hgeI : ¬ (g : Int) ≤ (x : Int) := by omega
              have HE : Hid (Is' (wr.setCell ⟨Y, j, none⟩ (.int .i64 (x : Int))) Y (.slice (some ⟨Y, 0, none⟩) nu nu) (fmS g (kpS g L nd k).1 F (j + 1)) ∧ Below Y wF (wr.setCell ⟨Y, j, none⟩ (.int .i64 (x : Int)))) := by
                obtain ⟨p1, p2⟩ := hpz (x : Int)
                refine ⟨?_, hJ.out.2.trans p2⟩
                rw [HFS.out]
                unfold rn1
                rw [if_neg hgeI]; exact p1
              clear hpz
              go_wp2_with fail
              refine ⟨⟨j + 1, by omega, by go_num, HE.out⟩, by simp [intOf]; omega⟩
          · obtain rfl : j = nu := by omega
            have hltJ : ¬ (j : Int) < (j : Int) := by omega
            have hFe : Is' wr Y (.slice (some ⟨Y, 0, none⟩) j j) (F.map (rn1 g (kpS g L nd k).1)) := by
              have := hJ.out.1
              rw [HNU.out, fmS_end, ← HNU.out] at this; exact this
            have hRr : Is' wr w.heap.size (.slice (some ⟨X, 0, none⟩) n n) (kpS g L nd k).1 := row_kept hH.out.2.1 HBQ.out.block
            obtain ⟨⟨z0, hcx⟩, hfx, hpx⟩ := Is'.put hRr (j := k) (by rw [(kpS_len g L nd k).1, ← HN.out]; exact hlt)
            obtain ⟨p1, p2⟩ := hpx ((g : Int) + (nq : Int))
            have hXQ : X < wQ.heap.size := (World.ownsRow.lt hH.out.2.1 X rfl).2
            have hqX : (Value.slice aq nq cq).ownBlock ≠ some X := fun e => by
              obtain ⟨us, h1, -⟩ := hH.out.1.ex
              exact row_ne h1 hH.out.2.1 (by decide) e rfl
            have HG3 : Hid (Ge X 57 (wr.setCell ⟨X, k, none⟩ (.int .i64 ((g : Int) + (nq : Int)))) w.heap.size (.slice aq nq cq) (kpS g L nd k).2) := (hH.out.1.below HBQ.out).far hqX _ _
            have HU3 : Hid (Sf (wr.setCell ⟨X, k, none⟩ (.int .i64 ((g : Int) + (nq : Int)))) (fun q => own (.slice aq nq cq) q ∨ q = X) (.slice (some ⟨Y, 0, none⟩) j j) (F.map (rn1 g (kpS g L nd k).1))) := (hFe.sf (fun q hq => by
              have := HY.out.1
              rcases hq with e | e
              · have := (hH.out.1.low q e).2; omega
              · omega)).far (Or.inr rfl) _
            have HR3 : Hid (Is' (wr.setCell ⟨X, k, none⟩ (.int .i64 ((g : Int) + (nq : Int)))) w.heap.size (.slice (some ⟨X, 0, none⟩) n n) (kpS g L nd (k + 1)).1 ∧ Below w.heap.size w (wr.setCell ⟨X, k, none⟩ (.int .i64 ((g : Int) + (nq : Int))))) := ⟨by rw [HN1.out]; exact p1, HBW.out.trans p2⟩
            have hXl : X < wr.heap.size := World.block_lt_of_cell? _ _ hcx
            clear hFe hRr hpx p1 p2
            obtain ⟨us, hus, husl, hu3⟩ := HG3.out.ex
            have HUX : Hid (∀ (i : Nat) u c', us[i]? = some u → (kpS g L nd k).2[i]? = some c' → Sf (wr.setCell ⟨X, k, none⟩ (.int .i64 ((g : Int) + (nq : Int)))) (fun q => own (.slice aq nq cq) q ∨ q = X) u c') := hu3
            have HUS : Hid ((wr.setCell ⟨X, k, none⟩ (.int .i64 ((g : Int) + (nq : Int)))).ownsRow w.heap.size 57 1 (.slice aq nq cq) nq us ∧ us.length = nq) := by
              have e1 : us.length = nq := by rw [husl, HNQ.out]
              exact ⟨by rw [← e1]; exact e1 ▸ hus, e1⟩
            have HQX : Hid ((Value.slice aq nq cq).ownBlock ≠ some X) := hqX
            clear hus husl hu3 hqX
            have hz3 := HR3.out.2.size
            go_wp2_with (at_builtin; refine wpList_append_own_at _ rfl _ _ 26 rfl w.heap.size 57 ti (.agg #[.slice none 0 0]) 1 24 underSteps HI.out.1 HI.out.2.1 HI.out.2.2.1 HI.out.2.2.2 rfl (by decide) (.slice aq nq cq) nq us rfl (row_kept HUS.out.1 (fun _ hq => heap_alloc_old _ _ hq)) ⟨wr.heap.size, 0, none⟩ 1 1 [.slice (some ⟨Y, 0, none⟩) j j] rfl rfl (by have h9 := cell_one_new (wr.setCell ⟨X, k, none⟩ (.int .i64 ((g : Int) + (nq : Int)))) (.slice (some ⟨Y, 0, none⟩) j j) 57; rw [World.size_setCell] at h9; exact h9) (by intro y hy; rw [List.mem_singleton.1 hy]; rfl) (by unfold maxLen; omega) (by omega) (by rw [size_alloc']; omega) ?_; intro v4 w4 hown hgrow hnil hat)
            have hG4 : Ge X 57 w4 w.heap.size v4 (kpS g L nd (k + 1)).2 := by
              rw [HN1.out]
              exact Ge.app (by rw [HUS.out.2, HNQ.out]) HUX.out HU3.out hgrow (by rw [HUS.out.2]; exact hown) hat
            have hb4 : Below w.heap.size w w4 := low_grown HR3.out.2 (by omega) hgrow (fun q e => (HUS.out.1.lt q e).1)
            have hR4 : Is' w4 w.heap.size (.slice (some ⟨X, 0, none⟩) n n) (kpS g L nd (k + 1)).1 := row_own HR3.out.1 fun q hq => (grown_of hgrow).block q (World.ownsRow.lt HR3.out.1 q hq).2 fun e => by
              injection hq with hq
              have hq' : X = q := hq
              exact HQX.out (by rw [hq']; exact e.symm)
            refine ⟨⟨k + 1, by omega, by go_num, hG4, hR4, hb4⟩, by simp [intOf]; omega⟩
    · obtain rfl : k = n := by omega
      have hltI : ¬ (k : Int) < (k : Int) := by omega
      have HE : Hid (Lr wr (.slice aq nq cq) (kpS g L nd k).2 ∧ Below w.heap.size w wr) := ⟨hH.out.1.lr, hH.out.2.2⟩
      go_wp2_with fail
      go_ret
      exact ⟨_, rfl, HE.out.1, HE.out.2⟩
end Go.Proofs.Ythdgmkjjpmigeaa
