/- Contracts (dd): walk, Size, Node. -/
import Derived.Test.YtkmkmgnfolpphaaDoorDE13
namespace Go.Proofs.YtkmkmgnfolpphaaDoor
open Go.RowKit
set_option linter.unusedSimpArgs false
set_option linter.unusedVariables false

def v0F (N : Nat) : Vs := ⟨List.replicate N false, []⟩
theorem v0_cf (N : Nat) : (v0F N).od.length + (v0F N).me.countP (fun b => !b) ≤ N := by
  unfold v0F
  have := List.countP_le_length (p := fun b => !b) (l := List.replicate N false)
  simp only [List.length_replicate] at this
  simpa using this
theorem v0_vi (ns : List T3) : VI ns (fun _ => False) (v0F ns.length) := by
  refine ⟨by simp [v0F], List.nodup_nil, (fun i hi => nomatch hi), fun i hi => ?_, fun a i b e => by simp [v0F] at e⟩
  simp only [v0F, List.getD_eq_getElem?_getD, List.getElem?_replicate] at hi
  split at hi <;> simp at hi
set_option maxRecDepth 20000 in
set_option maxHeartbeats 1600000 in
theorem walk_any {w : World} {F : Nat → Prop} {g vars most : Nat} {S : St} {pn : Int → Int} (h : Gr w F g vars most S pn) :
    Calls Tryd.prog 40 #[.pointer (some ⟨g, 1, none⟩)] w fun e w' => ∃ mb, e = .returned (.agg #[.pointer (some ⟨g, 1, none⟩), .slice (some ⟨mb, 0, none⟩) S.ns.length S.ns.length, .slice none 0 0]) ∧ Below w.heap.size w w' ∧ Bo w' w.heap.size (.slice (some ⟨mb, 0, none⟩) S.ns.length S.ns.length) (List.replicate S.ns.length false) := by
  obtain ⟨m, p, v, u, hx, -⟩ := h
  have c2 := hx.c2
  have hl := hx.mg.len
  have hm := hx.mg.mo
  have hg := hx.lt
  obtain ⟨r, cap, rfl, -⟩ := hx.sl
  obtain ⟨N, hN⟩ : ∃ N, N = S.ns.length := ⟨_, rfl⟩
  rw [← hN] at c2 hl ⊢
  have hNb : N ≤ 20000 := by omega
  have HMB : Hid (∀ w : World, Bo (w.alloc (.cells (madeCells #[.bool false] N) 4)) w.heap.size (.slice (some ⟨w.heap.size, 0, none⟩) N N) (List.replicate N false)) := fun w => Bo.made w (by omega)
  have hmk : ∀ wx, (Instr.makeSlice 33 (.int .i64 (N : Int)) (.int .i64 (N : Int))).run Tryd.prog wx = .ok (.slice (some ⟨wx.heap.size, 0, none⟩) N N) (wx.alloc (.cells (madeCells #[.bool false] N) 4)) := fun wx => run_make_row' (P := Tryd.prog) 33 4 (.bool false) 1 underBools infoBool rfl .i64 .i64 N (by omega) (by omega) wx
  clear hx hN
  go_enter Tryd.func40, Tryd.ntmps40
  go_wp2_with fail
  refine bodyPost_ret (v := .agg #[.pointer (some ⟨g, 1, none⟩), .slice (some ⟨w.heap.size + 1, 0, none⟩) N N, .slice none 0 0]) (by simp [results, Tryd.results40, go_sem]) rfl ?_
  refine ⟨w.heap.size + 1, rfl, by go_grown, ⟨?_⟩⟩
  have hb := HMB.out (w.alloc (.cells #[.pointer (some ⟨g, 1, none⟩), .slice (some ⟨w.heap.size + 1, 0, none⟩) N N, .slice none 0 0] 83))
  rw [size_alloc'] at hb
  exact own_mono hb.row (by omega)
/-- How many nodes a diagram is made of. -/
def odF (vars : Nat) (ns : List T3) (f : Int) : List Int := (visF ns (vars + 1) (v0F ns.length) f).od
set_option maxRecDepth 20000 in
set_option maxHeartbeats 3200000 in
theorem size_any {w : World} {F0 : Nat → Prop} {g vars most : Nat} {S : St} {pn : Int → Int} (h0 : Gr w F0 g vars most S pn) (f : Int) :
    Calls Tryd.prog 10 #[.pointer (some ⟨g, 0, none⟩), .int .i64 f] w fun e w' => e = .returned (.tuple (if alive S.ns f then #[.int .i64 ((odF vars S.ns f).length : Int), .int .i64 0] else #[.int .i64 0, .int .i64 140])) ∧ Below w.heap.size w w' := by
  have h := h0.cut
  have hFl : ∀ k, Fc w F0 k → k < w.heap.size := fun k hk => hk.2
  have HH : Hid _ := has_any h f
  by_cases ha : alive S.ns f
  · rw [if_pos ha]
    have HH2 : Hid (Calls Tryd.prog 38 #[.pointer (some ⟨g, 1, none⟩), .int .i64 f] w fun e w' => e = .returned (.bool true) ∧ w' = w) := by
      have := HH.out
      rwa [decide_eq_true ha] at this
    have HWA : Hid _ := walk_any h
    have hlen := h.mg.len
    have hmo := h.mg.mo
    have HV : Hid (∀ wx wb, Below w.heap.size w wx → Wk wx w.heap.size wb g (v0F S.ns.length) 20000 → Calls Tryd.prog 41 #[.pointer (some ⟨wb, 0, none⟩), .int .i64 f] wx fun e w' => e = .returned (.tuple #[]) ∧ Below w.heap.size wx w' ∧ Wk w' w.heap.size wb g (visF S.ns (vars + 1) (v0F S.ns.length) f) 20000 ∧ (visF S.ns (vars + 1) (v0F S.ns.length) f).me.length = S.ns.length) := fun wx wb hb hw =>
      vis_any (vars + 1) wx (Fc w F0) w.heap.size g vars most wb 20000 S pn (v0F S.ns.length) f (h.bel hFl hb) hFl hw (by simp [v0F]) ha (by have := (h.mg.good.var ha).1; omega)
    obtain ⟨L, hL⟩ : ∃ L, L = (odF vars S.ns f).length := ⟨_, rfl⟩
    rw [← hL]
    have HL : Hid _ := hL
    have HB0 : Hid (S.ns.length ≤ 20000) := by unfold Hid; omega
    obtain ⟨N, hN⟩ : ∃ N, N = S.ns.length := ⟨_, rfl⟩
    rw [← hN] at HWA HV HB0
    have HNN : Hid (N = S.ns.length) := hN
    clear hL HH h0 h hFl ha hlen hmo hN
    go_enter Tryd.func10, Tryd.ntmps10
    go_wp2_with fail
    refine HH2.out.mono ?_
    rintro e w0 ⟨rfl, hw0⟩
    rw [hw0]
    clear hw0 w0
    go_wp2_with fail
    refine Calls.mono HWA.out ?_
    rintro e w1 ⟨mb, rfl, hb1, hbo⟩
    have HB1 : Hid _ := hb1
    have HBO : Hid _ := hbo
    have hs1 := hb1.size
    clear hb1 hbo
    go_wp2_with fail
    obtain ⟨W, hW⟩ : ∃ W, W = w1.alloc (.cells #[.pointer (some ⟨g, 1, none⟩), .slice (some ⟨mb, 0, none⟩) N N, .slice none 0 0] 83) := ⟨_, rfl⟩
    have hBW : Below w.heap.size w W := by rw [hW]; exact HB1.out.alloc HB1.out.size _
    have hWk : Wk W w.heap.size w1.heap.size g (v0F N) 20000 := by
      refine ⟨⟨mb, .slice none 0 0, ?_, ⟨?_⟩, World.ownsRow_nil _ _ _ _⟩, hs1, Nat.le_trans (v0_cf N) HB0.out, Nat.le_refl _⟩
      · rw [hW]; simp only [v0F, List.length_replicate]; exact heap_alloc_new _ _
      · rw [hW]; simp only [v0F, List.length_replicate]
        have := row_kept HBO.out.row (fun k hk => heap_alloc_old w1 (.cells #[.pointer (some ⟨g, 1, none⟩), .slice (some ⟨mb, 0, none⟩) N N, .slice none 0 0] 83) hk)
        simpa using this
    rw [← hW]
    clear hW hs1
    refine (HV.out W _ hBW hWk).mono ?_
    rintro e w2 ⟨rfl, hb2, hw2, -⟩
    have hb2' := hBW.trans hb2
    have HB2 : Hid _ := hb2'
    obtain ⟨mb2, ov2, v0, -, v2⟩ := hw2.ex
    have d2 : w2.cell? ⟨w1.heap.size, 2, none⟩ = some ov2 := cell_of v0 2 rfl
    obtain ⟨a2, cap2, hov⟩ : ∃ a c, ov2 = .slice a L c := by
      have e : (visF S.ns (vars + 1) (v0F N) f).od.length = L := by rw [HL.out, HNN.out]; rfl
      rcases v2.2 with ⟨q, hn⟩ | ⟨r, cap, cur, q, _⟩
      · exact ⟨none, 0, by rw [q]; rw [← e, hn]⟩
      · exact ⟨_, cap, by rw [q, e]⟩
    subst hov
    clear hb2 hw2 v0 v2 hBW hWk hb2'
    go_wp2_with fail
    refine bodyPost_ret (v := .tuple #[.int .i64 (L : Int), .int .i64 0]) (by simp [results, Tryd.results10, go_sem]) rfl ?_
    exact ⟨rfl, HB2.out⟩
  · rw [if_neg ha]
    have HH2 : Hid (Calls Tryd.prog 38 #[.pointer (some ⟨g, 1, none⟩), .int .i64 f] w fun e w' => e = .returned (.bool false) ∧ w' = w) := by
      have := HH.out
      rwa [decide_eq_false ha] at this
    clear HH h0 h hFl ha
    go_enter Tryd.func10, Tryd.ntmps10
    go_wp2_with fail
    refine HH2.out.mono ?_
    rintro e w0 ⟨rfl, hw0⟩
    rw [hw0]
    clear hw0 w0
    go_wp2_with fail
    refine bodyPost_ret (v := .tuple #[.int .i64 0, .int .i64 140]) (by simp [results, Tryd.results10, go_sem]) rfl ?_
    exact ⟨rfl, Below.refl _ _⟩
/-- What Node tells. -/
def nodF (ns : List T3) (i : Int) : Array Value := if 2 ≤ i ∧ alive ns i then #[.int .i64 (at3 ns i).1, .int .i64 (at3 ns i).2.1, .int .i64 (at3 ns i).2.2, .bool true] else #[.int .i64 0, .int .i64 0, .int .i64 0, .bool false]
set_option maxRecDepth 20000 in
set_option maxHeartbeats 3200000 in
theorem nod_any {w : World} {F : Nat → Prop} {g vars most : Nat} {S : St} {pn : Int → Int} (h : Gr w F g vars most S pn) (f : Int) :
    Calls Tryd.prog 30 #[.pointer (some ⟨g, 0, none⟩), .int .i64 f] w fun e w' => e = .returned (.tuple (nodF S.ns f)) ∧ Below w.heap.size w w' := by
  have HI : Hid _ := isNode_any f
  have HH : Hid _ := has_any h f
  by_cases h2 : 2 ≤ f
  · have HI2 : Hid (∀ wx, Calls Tryd.prog 39 #[.int .i64 f] wx fun e w' => e = .returned (.bool true) ∧ w' = wx) := fun wx => by
      have := HI.out wx
      rwa [decide_eq_true (by omega)] at this
    by_cases ha : alive S.ns f
    · have HH2 : Hid (Calls Tryd.prog 38 #[.pointer (some ⟨g, 1, none⟩), .int .i64 f] w fun e w' => e = .returned (.bool true) ∧ w' = w) := by
        have := HH.out
        rwa [decide_eq_true ha] at this
      have e : nodF S.ns f = #[.int .i64 (at3 S.ns f).1, .int .i64 (at3 S.ns f).2.1, .int .i64 (at3 S.ns f).2.2, .bool true] := by unfold nodF; rw [if_pos ⟨h2, ha⟩]
      rw [e]
      obtain ⟨j, rfl, hj⟩ := ha.nat
      obtain ⟨m, p, v, u, hx, -⟩ := h
      have hg := hx.lt
      have c2 := hx.c2
      have hl := hx.mg.len
      have hmo := hx.mg.mo
      obtain ⟨r, cap, rfl, hrl, -, -, hc⟩ := hx.sl
      obtain ⟨k0, k1, k2⟩ := hc j hj
      obtain ⟨a, b, c, habc⟩ : ∃ a b c, at3 S.ns (j : Int) = (a, b, c) := ⟨_, _, _, rfl⟩
      rw [habc] at k0 k1 k2 ⊢
      dsimp only at k0 k1 k2 ⊢
      obtain ⟨N, hN⟩ : ∃ N, N = S.ns.length := ⟨_, rfl⟩
      rw [← hN] at c2 hl hj
      have hjI : (j : Int) < (N : Int) := by omega
      clear e hx hc habc hN HI HH ha
      go_enter Tryd.func30, Tryd.ntmps30
      go_wp2_with fail
      refine (HI2.out _).mono ?_
      rintro e w0 ⟨rfl, hw0⟩
      rw [hw0]
      clear hw0 w0
      go_wp2_with fail
      refine HH2.out.mono ?_
      rintro e w0 ⟨rfl, hw0⟩
      rw [hw0]
      clear hw0 w0
      go_wp2_with fail
      go_quiet (fail)
      go_wp2_with fail
      refine bodyPost_ret (v := .tuple #[.int .i64 a, .int .i64 b, .int .i64 c, .bool true]) (by simp [results, Tryd.results30, go_sem]) rfl ?_
      exact ⟨rfl, below_drewN (by go_grown) _⟩
    · have HH2 : Hid (Calls Tryd.prog 38 #[.pointer (some ⟨g, 1, none⟩), .int .i64 f] w fun e w' => e = .returned (.bool false) ∧ w' = w) := by
        have := HH.out
        rwa [decide_eq_false ha] at this
      have e : nodF S.ns f = #[.int .i64 0, .int .i64 0, .int .i64 0, .bool false] := by unfold nodF; rw [if_neg (fun q => ha q.2)]
      rw [e]
      clear e HI HH ha h
      go_enter Tryd.func30, Tryd.ntmps30
      go_wp2_with fail
      refine (HI2.out _).mono ?_
      rintro e w0 ⟨rfl, hw0⟩
      rw [hw0]
      clear hw0 w0
      go_wp2_with fail
      refine HH2.out.mono ?_
      rintro e w0 ⟨rfl, hw0⟩
      rw [hw0]
      clear hw0 w0
      go_wp2_with fail
      refine bodyPost_ret (v := .tuple #[.int .i64 0, .int .i64 0, .int .i64 0, .bool false]) (by simp [results, Tryd.results30, go_sem]) rfl ?_
      exact ⟨rfl, Below.refl _ _⟩
  · have HI2 : Hid (∀ wx, Calls Tryd.prog 39 #[.int .i64 f] wx fun e w' => e = .returned (.bool false) ∧ w' = wx) := fun wx => by
      have := HI.out wx
      rwa [decide_eq_false (by omega)] at this
    have e : nodF S.ns f = #[.int .i64 0, .int .i64 0, .int .i64 0, .bool false] := by unfold nodF; rw [if_neg (fun q => h2 q.1)]
    rw [e]
    clear e HI HH h
    go_enter Tryd.func30, Tryd.ntmps30
    go_wp2_with fail
    refine (HI2.out _).mono ?_
    rintro e w0 ⟨rfl, hw0⟩
    rw [hw0]
    clear hw0 w0
    go_wp2_with fail
    refine bodyPost_ret (v := .tuple #[.int .i64 0, .int .i64 0, .int .i64 0, .bool false]) (by simp [results, Tryd.results30, go_sem]) rfl ?_
    exact ⟨rfl, Below.refl _ _⟩
end Go.Proofs.YtkmkmgnfolpphaaDoor
