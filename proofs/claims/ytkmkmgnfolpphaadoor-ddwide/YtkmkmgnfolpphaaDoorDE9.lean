/- Contracts (dd): solve. -/
import Derived.Test.YtkmkmgnfolpphaaDoorDE8
import Derived.Test.YtkmkmgnfolpphaaDoorDDA
namespace Go.Proofs.YtkmkmgnfolpphaaDoor
open Go.RowKit
set_option linter.unusedSimpArgs false
set_option linter.unusedVariables false

/-- One more block that may turn. -/
def Fm (F : Nat → Prop) (r : Nat) : Nat → Prop := fun k => F k ∨ k = r
theorem Ch.plus {w w' : World} {F F' : Nat → Prop} (r : Nat) (h : Ch w w' F F') : Ch w w' (Fm F r) (Fm F' r) := by
  refine ⟨h.os, h.tape, h.output, h.size, fun k hk hf => h.block k hk (fun q => hf (Or.inl q)), fun k hk => ?_⟩
  rcases hk with q | q
  · exact (h.foot k q).imp Or.inl id
  · exact Or.inl (Or.inr q)
theorem Ch.grown {w w' : World} {F : Nat → Prop} {r : Nat} (h : w.drew.grownBy w' (some r)) (hF : F r) : Ch w w' F F := ⟨h.os, h.tape, h.output, h.size, fun k hk hf => h.block k hk (fun e => hf (by cases e; exact hF)), fun _ q => Or.inl q⟩
/-- Those of F that there are. -/
def Fc (w : World) (F : Nat → Prop) : Nat → Prop := fun k => F k ∧ k < w.heap.size
theorem Gr.cut {w : World} {F : Nat → Prop} {g vars most : Nat} {S : St} {pn : Int → Int} (h : Gr w F g vars most S pn) : Gr w (Fc w F) g vars most S pn := by
  obtain ⟨m, p, v, u, hx, hne, f1, f2, f3, f4, f5⟩ := h
  exact ⟨m, p, v, u, hx, hne, ⟨f1, hx.lt⟩, ⟨f2, hx.nums.lt⟩, ⟨f3, hx.pins.lt⟩, fun b e => ⟨f4 b e, (hx.row.lt b e).2⟩, fun b e => ⟨f5 b e, (World.ownsRow.lt hx.spr b e).2⟩⟩
theorem Sf.sub {w : World} {F G : Nat → Prop} {v : Value} {l : List Int} (h : Sf w F v l) (hG : ∀ k, G k → F k) : Sf w G v l := by
  obtain ⟨a, c, e, h2⟩ := h.ex
  refine ⟨a, c, e, ?_⟩
  rcases h2 with h2 | ⟨r, o, h3, h4, h5, h6⟩
  · exact Or.inl h2
  · exact Or.inr ⟨r, o, h3, h4, fun q => h5 (hG _ q), h6⟩
theorem Rn.sub {w : World} {F G : Nat → Prop} {rb g : Nat} {rm : Option Nat} {O : List Int} {R : Rs} (h : Rn w F rb g rm O R) (hG : ∀ k, G k → F k) : Rn w G rb g rm O R := by
  obtain ⟨ov, h1, h2⟩ := h.ex
  refine ⟨⟨ov, h1, h2.sub hG⟩, fun q => h.nf (hG _ q), ?_, h.nd⟩
  rcases h.mp with q | ⟨r, q1, q2, q3⟩
  · exact Or.inl q
  · exact Or.inr ⟨r, q1, q2, fun q => q3 (hG _ q)⟩
theorem Ch.wide {w w' : World} {F G F' : Nat → Prop} (h : Ch w w' F F') (hF : ∀ k, F k → G k) : Ch w w' G F' := ⟨h.os, h.tape, h.output, h.size, fun k hk hf => h.block k hk (fun q => hf (hF k q)), fun k hk => (h.foot k hk).imp (hF k) id⟩
/-- The run's own map is not a block of the manager's, and a run's cells stay where only F and its map turn. -/
theorem Rn.map {w : World} {F : Nat → Prop} {rb g r : Nat} {O : List Int} {R : Rs} (h : Rn w F rb g (some r) O R) : Mp w 98 r (rsL R) ∧ ¬ F r := by
  rcases h.mp with ⟨q, _⟩ | ⟨r', q1, q2, q3⟩
  · cases q
  · cases q1; exact ⟨q2, q3⟩
/-- Where collecting may be (full), or there is none. -/
def Reg (full : Bool) (S S' : St) : Prop := full = true ∨ (S.sp = [] ∧ S'.gone = S.gone)
/-- What solve answers. -/
def ansV (r : Option Int) : Value := match r with | some f => .tuple #[.int .i64 f, .int .i64 0] | none => .tuple #[.int .i64 0, .int .i64 141]
def NodeC (full : Bool) : Prop := ∀ (w : World) (F : Nat → Prop) (g vars most rb : Nat) (rm : Option Nat) (O : List Int) (R : Rs) (S : St) (pn : Int → Int) (P : List Int) (top no yes : Int),
  Gr w F g vars most S pn → Rn w F rb g rm O R → (∀ f, f ∈ P ↔ 1 ≤ pn f) → (∀ i ∈ P ++ valsR R ++ O, alive S.ns i) → (0 ≤ top ∧ top < vars) → Rz S.ns (P ++ valsR R ++ O) no → Rz S.ns (P ++ valsR R ++ O) yes → top < (at3 S.ns no).1 → top < (at3 S.ns yes).1 →
  Reg full S (nodeF most S (P ++ valsR R ++ O) top no yes).2 →
  Calls Tryd.prog 48 #[.pointer (some ⟨rb, 0, none⟩), .int .i64 top, .int .i64 no, .int .i64 yes] w fun e w' => e = .returned (ansV (nodeF most S (P ++ valsR R ++ O) top no yes).1) ∧ (full = false → (nodeF most S (P ++ valsR R ++ O) top no yes).2.sp = []) ∧ Did w F g vars most (nodeF most S (P ++ valsR R ++ O) top no yes).2 pn w'
theorem nodeC_no : NodeC false := by
  intro w F g vars most rb rm O R S pn P top no yes h hr _ hA ht hn hy vn vy hreg
  obtain ⟨hsp, hg⟩ := hreg.resolve_left (by decide)
  refine (node_any0 h hr hA ht hn hy vn vy hsp hg).mono ?_
  rintro e w' ⟨⟨f, h1, h2⟩, h3, h4⟩
  refine ⟨?_, fun _ => h3, h4⟩
  rw [h1]; exact h2
def SolveC (full : Bool) (n : Nat) : Prop := ∀ (w : World) (F : Nat → Prop) (g vars most rb r : Nat) (O : List Int) (R : Rs) (S : St) (pn : Int → Int) (P : List Int) (q : T3) (t : Int),
  Gr w F g vars most S pn → Rn w F rb g (some r) O R → (∀ f, f ∈ P ↔ 1 ≤ pn f) → (∀ i ∈ P ++ valsR R ++ O, alive S.ns i) → RsOk vars S.ns O R → QOk S.ns O q → LB S.ns q t → 0 ≤ t → t ≤ vars → (vars : Int) - t < n →
  Reg full S (solveF vars most P O n S R q).2.1 →
  Calls Tryd.prog 61 #[.pointer (some ⟨rb, 0, none⟩), t3v q] w fun e w' => e = .returned (ansV (solveF vars most P O n S R q).1) ∧ (full = false → (solveF vars most P O n S R q).2.1.sp = []) ∧
    ∃ F', Gr w' F' g vars most (solveF vars most P O n S R q).2.1 pn ∧ Rn w' F' rb g (some r) O (solveF vars most P O n S R q).2.2 ∧ Ch w w' (Fm F r) (Fm F' r)
theorem ent_of {vars : Nat} {ns : List T3} {sp O : List Int} (g : Good vars ns sp) (hO : ∀ i ∈ O, alive ns i) {e : Int} (h : Rz ns O e) : Ent ns e := by
  obtain ⟨j, e1, e2⟩ := (h.alive g hO).nat
  exact Or.inr ⟨j, e1, e2⟩
theorem q_w64 {vars : Nat} {ns : List T3} {sp O : List Int} (g : Good vars ns sp) (hO : ∀ i ∈ O, alive ns i) (hl : ns.length ≤ 20000) {e : Int} (h : e = -1 ∨ Rz ns O e) : w64 e := by
  rcases h with rfl | h
  · unfold w64; omega
  · have := (h.alive g hO).1
    have := (h.alive g hO).2.1
    unfold w64; omega
theorem set3 {W : World} {b : Nat} {x0 x1 x2 y0 y1 y2 : Value} (h0 : W.cell? ⟨b, 0, none⟩ = some x0) (h1 : W.cell? ⟨b, 1, none⟩ = some x1) (h2 : W.cell? ⟨b, 2, none⟩ = some x2) :
    (((W.setCell ⟨b, 0, none⟩ y0).setCell ⟨b, 1, none⟩ y1).setCell ⟨b, 2, none⟩ y2).cell? ⟨b, 0, none⟩ = some y0 ∧ (((W.setCell ⟨b, 0, none⟩ y0).setCell ⟨b, 1, none⟩ y1).setCell ⟨b, 2, none⟩ y2).cell? ⟨b, 1, none⟩ = some y1 ∧ (((W.setCell ⟨b, 0, none⟩ y0).setCell ⟨b, 1, none⟩ y1).setCell ⟨b, 2, none⟩ y2).cell? ⟨b, 2, none⟩ = some y2 := by
  have s := fun (V : World) (a p : Addr) (v : Value) (h : p ≠ a) => (World.cell?_setCell_other V a p v (by first | exact h | exact h.symm))
  have a1 : (W.setCell ⟨b, 0, none⟩ y0).cell? ⟨b, 1, none⟩ = some x1 := (s _ _ _ _ (by simp)).trans h1
  have a2 : (W.setCell ⟨b, 0, none⟩ y0).cell? ⟨b, 2, none⟩ = some x2 := (s _ _ _ _ (by simp)).trans h2
  have a0 : (W.setCell ⟨b, 0, none⟩ y0).cell? ⟨b, 0, none⟩ = some y0 := World.cell?_setCell_same _ _ _ h0
  have b0 : ((W.setCell ⟨b, 0, none⟩ y0).setCell ⟨b, 1, none⟩ y1).cell? ⟨b, 0, none⟩ = some y0 := (s _ _ _ _ (by simp)).trans a0
  have b2 : ((W.setCell ⟨b, 0, none⟩ y0).setCell ⟨b, 1, none⟩ y1).cell? ⟨b, 2, none⟩ = some x2 := (s _ _ _ _ (by simp)).trans a2
  have b1 : ((W.setCell ⟨b, 0, none⟩ y0).setCell ⟨b, 1, none⟩ y1).cell? ⟨b, 1, none⟩ = some y1 := World.cell?_setCell_same _ _ _ a1
  exact ⟨(s _ _ _ _ (by simp)).trans b0, (s _ _ _ _ (by simp)).trans b1, World.cell?_setCell_same _ _ _ b2⟩
/-- Three numbers lie at block b. -/
structure Q3 (w : World) (b : Nat) (p : T3) : Prop where
  c0 : w.cell? ⟨b, 0, none⟩ = some (.int .i64 p.1)
  c1 : w.cell? ⟨b, 1, none⟩ = some (.int .i64 p.2.1)
  c2 : w.cell? ⟨b, 2, none⟩ = some (.int .i64 p.2.2)
theorem Q3.lt {w : World} {b : Nat} {p : T3} (h : Q3 w b p) : b < w.heap.size := World.block_lt_of_cell? _ _ h.c0
theorem Q3.kept {w w' : World} {b : Nat} {p : T3} (h : Q3 w b p) (hb : w'.heap[b]? = w.heap[b]?) : Q3 w' b p := ⟨(World.cell?_of_block hb).trans h.c0, (World.cell?_of_block hb).trans h.c1, (World.cell?_of_block hb).trans h.c2⟩
theorem rsL_key {R : Rs} {x : Value × Value} (h : x ∈ rsL R) : ∃ p ∈ R, x = (t3v p.1, .int .i64 p.2) := by
  obtain ⟨p, hp, rfl⟩ := List.mem_map.1 h
  exact ⟨p, hp, rfl⟩
theorem Rn.look_yes {w : World} {F : Nat → Prop} {rb g r : Nat} {O : List Int} {R : Rs} (h : Rn w F rb g (some r) O R) {p : T3} {kl : Lit} (hkl : keyOf Tryd.prog 98 (t3v p) = some kl) {f : Int} (hf : lookR R p = some f) :
    (Instr.lookup 94 (.map (some r)) (t3v p) true).run Tryd.prog w = .ok (.tuple #[.int .i64 f, .bool true]) w := by
  have hm := lookR_some hf
  refine h.map.1.yes qLaw underQMap (zeroInt _) hkl (x := .int .i64 f) (List.mem_map.2 ⟨_, hm, rfl⟩) fun x hx he => ?_
  obtain ⟨p', hp', rfl⟩ := rsL_key hx
  have e := t3v_inj he
  have := nodup_at h.nd hp' hm e
  rw [this]
theorem Rn.look_no {w : World} {F : Nat → Prop} {rb g r : Nat} {O : List Int} {R : Rs} (h : Rn w F rb g (some r) O R) {p : T3} {kl : Lit} (hkl : keyOf Tryd.prog 98 (t3v p) = some kl) (hf : lookR R p = none) :
    (Instr.lookup 94 (.map (some r)) (t3v p) true).run Tryd.prog w = .ok (.tuple #[.int .i64 0, .bool false]) w := by
  refine h.map.1.no qLaw underQMap (zeroInt _) hkl fun x hx he => ?_
  obtain ⟨p', hp', rfl⟩ := rsL_key hx
  exact lookR_none hf p' hp' (t3v_inj he)
/-- The last statement: the answer is kept. -/
theorem Rn.put {w X : World} {F : Nat → Prop} {rb g r : Nat} {O : List Int} {R : Rs} (h : Rn w F rb g (some r) O R) {p : T3} {f : Int} (hno : ∀ p' ∈ R, p'.1 ≠ p) (hM : Mp X 98 r (rsL R ++ [(t3v p, .int .i64 f)])) (hg : w.drew.grownBy X (some r)) : Rn X F rb g (some r) O (R ++ [(p, f)]) := by
  obtain ⟨hM0, hF⟩ := h.map
  obtain ⟨ov, h1, h2⟩ := h.ex
  have hne : rb ≠ r := fun e => by
    obtain ⟨es, cl, hm, _⟩ := hM0
    rw [← e, h1] at hm; cases hm
  have hlt := h.lt
  refine ⟨⟨ov, (hg.block rb hlt (fun e => hne (by cases e; rfl))).trans h1, ?_⟩, h.nf, Or.inr ⟨r, rfl, ?_, hF⟩, ?_⟩
  · obtain ⟨a, c, e, h3⟩ := h2.ex
    refine ⟨a, c, e, ?_⟩
    rcases h3 with h3 | ⟨ro, o, h3, h4, h5, h6⟩
    · exact Or.inl h3
    · by_cases hl : O = []
      · exact Or.inl hl
      · refine Or.inr ⟨ro, o, h3, Nat.lt_of_lt_of_le h4 hg.size, h5, h6.kept (hg.block ro h4 fun e => ?_)⟩
        cases e
        have h7 := h6 0 (by cases O with | nil => exact absurd rfl hl | cons a l => simp)
        obtain ⟨es, cl, hm, _⟩ := hM0
        simp [World.cell?, hm] at h7
  · have : rsL (R ++ [(p, f)]) = rsL R ++ [(t3v p, .int .i64 f)] := by simp [rsL]
    rw [this]; exact hM
  · rw [List.map_append, List.nodup_append]
    refine ⟨h.nd, by simp, fun a ha b hb e => ?_⟩
    obtain ⟨p', hp', rfl⟩ := List.mem_map.1 ha
    simp at hb
    exact hno p' hp' (by rw [e, hb])
theorem Gr.grown {w X : World} {F : Nat → Prop} {g vars most r : Nat} {S : St} {pn : Int → Int} (h : Gr w F g vars most S pn) (hg : w.drew.grownBy X (some r)) (hF : ¬ F r) : Gr X F g vars most S pn :=
  h.kept fun k hk hf => hg.block k hk fun e => hF (by cases e; exact hf)
set_option maxRecDepth 20000 in
set_option maxHeartbeats 12800000 in
theorem solve_step {full : Bool} (NC : NodeC full) (n : Nat) (IH : SolveC full n) : SolveC full (n + 1) := by
  intro w F0 g vars most rb r O R S pn P q t hG0 hR0 hP hA hRs hq hl h0 htv hn hreg
  obtain ⟨F, hFd⟩ : ∃ F, F = Fc w F0 := ⟨_, rfl⟩
  have hFF : ∀ k, F k → F0 k := fun k hk => by rw [hFd] at hk; exact hk.1
  have hFl : ∀ k, F k → k < w.heap.size := fun k hk => by rw [hFd] at hk; exact hk.2
  have hG : Gr w F g vars most S pn := by rw [hFd]; exact hG0.cut
  have hR := hR0.sub hFF
  suffices H : Calls Tryd.prog 61 #[.pointer (some ⟨rb, 0, none⟩), t3v q] w fun e w' => e = .returned (ansV (solveF vars most P O (n + 1) S R q).1) ∧ (full = false → (solveF vars most P O (n + 1) S R q).2.1.sp = []) ∧
    ∃ F', Gr w' F' g vars most (solveF vars most P O (n + 1) S R q).2.1 pn ∧ Rn w' F' rb g (some r) O (solveF vars most P O (n + 1) S R q).2.2 ∧ Ch w w' (Fm F r) (Fm F' r) by
    refine H.mono ?_
    rintro e w' ⟨h1, h2, F', h3, h4, h5⟩
    exact ⟨h1, h2, F', h3, h4, h5.wide fun k hk => hk.imp (hFF k) id⟩
  clear hG0 hR0 hFF hFd
  have good := hG.mg.good
  have hlen : S.ns.length ≤ 20000 := by have := hG.mg.len; have := hG.mg.mo; omega
  have hO : ∀ i ∈ O, alive S.ns i := fun i hi => hA i (by simp [hi])
  have hrl := hR.map.1.lt
  obtain ⟨p, hp⟩ : ∃ p, p = plainF q := ⟨_, rfl⟩
  have pq : QOk S.ns O p := by rw [hp]; exact plain_qok hq
  have HPL : Hid (∀ wx, Calls Tryd.prog 74 #[t3v q] wx fun e w' => e = .returned (t3v p) ∧ Below wx.heap.size wx w') := fun wx => by rw [hp]; exact plain_any q wx
  have HKN : Hid (∀ wx, Calls Tryd.prog 75 #[t3v p] wx fun e w' => e = .returned (.tuple #[.int .i64 ((knownF p).getD 0), .bool (knownF p).isSome]) ∧ Below wx.heap.size wx w') := kn_any p
  obtain ⟨kl, hkl⟩ := key_q (k := p) (q_w64 good hO hlen (Or.inr pq.f)) (q_w64 good hO hlen pq.g) (q_w64 good hO hlen (Or.inr pq.h))
  have HKL : Hid _ := hkl
  have HG : Hid (Gr w F g vars most S pn) := hG
  have HR : Hid (Rn w F rb g (some r) O R) := hR
  have HSP : Hid (full = false → S.sp = []) := fun e => ((hreg.resolve_left (by simp [e])).1)
  obtain ⟨SR, hSR⟩ : ∃ SR, SR = solveF vars most P O (n + 1) S R q := ⟨_, rfl⟩
  rw [← hSR] at hreg ⊢
  rw [solveF, ← hp] at hSR
  have HREG : Hid (Reg full S SR.2.1) := hreg
  have HQ : Hid _ := hq
  have HL : Hid _ := hl
  have HPQ : Hid _ := pq
  have HA : Hid _ := hA
  have HRS : Hid _ := hRs
  have HPP : Hid _ := hP
  have HEP : Hid (p = plainF q) := hp
  have HFL : Hid _ := hFl
  clear hreg hq hl pq hA hRs hP hp hFl hkl hG hR
  obtain ⟨q0, q1, q2⟩ := q
  obtain ⟨p0, p1, p2⟩ := p
  unfold t3v at HPL HKN ⊢
  dsimp only at HPL HKN ⊢
  go_enter Tryd.func61, Tryd.ntmps61
  go_wp2_with fail
  refine (HPL.out _).mono ?_
  rintro e wA ⟨rfl, hb⟩
  have hBA : Below w.heap.size w wA := Below.trans (by go_grown) (hb.mono (by simp))
  have k0 : wA.cell? ⟨w.heap.size, 0, none⟩ = some (.int .i64 q0) := keep_cell hb (by simp)
  have k1 : wA.cell? ⟨w.heap.size, 1, none⟩ = some (.int .i64 q1) := keep_cell hb (by simp)
  have k2 : wA.cell? ⟨w.heap.size, 2, none⟩ = some (.int .i64 q2) := keep_cell hb (by simp)
  have kf : ∀ j, wA.frozen? ⟨w.heap.size, j, none⟩ = false := fun j => (hb.frozen (p := ⟨w.heap.size, j, none⟩) (by simp)).trans (by simp)
  have hsA : w.heap.size < wA.heap.size := by have := hb.size; simp at this; omega
  clear hb
  go_wp2_with fail
  obtain ⟨wB, hwB⟩ : ∃ x, x = (((wA.setCell ⟨w.heap.size, 0, none⟩ (.int .i64 p0)).setCell ⟨w.heap.size, 1, none⟩ (.int .i64 p1)).setCell ⟨w.heap.size, 2, none⟩ (.int .i64 p2)) := ⟨_, rfl⟩
  have hBB : Below w.heap.size w wB := by rw [hwB]; go_grown
  have hQB : Q3 wB w.heap.size (p0, p1, p2) := by
    obtain ⟨s0, s1, s2⟩ := set3 (y0 := .int .i64 p0) (y1 := .int .i64 p1) (y2 := .int .i64 p2) k0 k1 k2
    rw [hwB]; exact ⟨s0, s1, s2⟩
  rw [← hwB]
  clear hwB k0 k1 k2 kf hsA hBA wA
  refine (HKN.out _).mono ?_
  rintro e wC ⟨rfl, hb⟩
  have hBC : Below w.heap.size w wC := hBB.trans (hb.mono hBB.size)
  have hQC := hQB.kept (hb.block _ hQB.lt)
  clear hb hBB hQB wB
  cases hk : knownF (p0, p1, p2) with
  | some f =>
    have es : SR = (some f, S, R) := by rw [hSR, hk]
    have HES : Hid _ := es
    clear es hSR hk
    go_wp2_with fail
    refine bodyPost_ret (v := .tuple #[.int .i64 f, .int .i64 0]) (by simp [results, Tryd.results61, go_sem]) rfl ?_
    rw [HES.out]
    exact ⟨rfl, HSP.out, F, HG.out.below hBC, HR.out.below hBC, Ch.of_below _ hBC⟩
  | none =>
    rw [hk] at hSR
    dsimp only at hSR
    have hRC := HR.out.below hBC
    have c2 := hRC.c2
    have b0 := hQC.c0
    have b1 := hQC.c1
    have b2 := hQC.c2
    dsimp only at b0 b1 b2
    cases hlk : lookR R (p0, p1, p2) with
    | some f =>
      have hlo : ∀ n, (Instr.lookup 94 (.map (some r)) (.agg #[.int .i64 p0, .int .i64 p1, .int .i64 p2]) true).run Tryd.prog (wC.drewN n) = .ok (.tuple #[.int .i64 f, .bool true]) (wC.drewN n) := fun n => (hRC.below (below_drewN (Below.refl _ _) n)).look_yes HKL.out hlk
      have es : SR = (some f, S, R) := by rw [hSR, hlk]
      have HES : Hid _ := es
      clear es hSR hk hlk hRC
      go_wp2_with fail
      go_quiet (fail)
      go_wp2_with fail
      refine bodyPost_ret (v := .tuple #[.int .i64 f, .int .i64 0]) (by simp [results, Tryd.results61, go_sem]) rfl ?_
      have hBD := below_drewN hBC nq
      rw [HES.out]
      exact ⟨rfl, HSP.out, F, HG.out.below hBD, HR.out.below hBD, Ch.of_below _ hBD⟩
    | none =>
      have hlo : ∀ n, (Instr.lookup 94 (.map (some r)) (.agg #[.int .i64 p0, .int .i64 p1, .int .i64 p2]) true).run Tryd.prog (wC.drewN n) = .ok (.tuple #[.int .i64 0, .bool false]) (wC.drewN n) := fun n => (hRC.below (below_drewN (Below.refl _ _) n)).look_no HKL.out hlk
      rw [hlk] at hSR
      dsimp only at hSR
      have HSR : Hid _ := hSR
      have HK : Hid (knownF (p0, p1, p2) = none) := hk
      have HLK : Hid (lookR R (p0, p1, p2) = none) := hlk
      clear hSR hk hlk hRC
      go_wp2_with fail
      go_quiet (fail)
      go_wp2_with fail
      obtain ⟨wD, hwD⟩ : ∃ x, x = wC.drewN nq := ⟨_, rfl⟩
      have hBD : Below w.heap.size w wD := by rw [hwD]; exact below_drewN hBC nq
      have hQD : Q3 wD w.heap.size (p0, p1, p2) := by rw [hwD]; exact hQC.kept rfl
      rw [← hwD]
      clear hwD hlo b0 b1 b2 c2 hQC hBC
      obtain ⟨m1a, m1b, m1c, m1d, m1e, m1f, m1g⟩ := mid1 (n := n) good HA.out HQ.out HL.out h0 htv hn HEP.out HK.out
      have hpf := ent_of good hO m1a.f
      have hph := ent_of good hO m1a.h
      have hpg : Ent S.ns p1 := m1a.g.elim Or.inl (ent_of good hO)
      have HT : Hid (Calls Tryd.prog 76 #[.pointer (some ⟨rb, 0, none⟩), .agg #[.int .i64 p0, .int .i64 p1, .int .i64 p2]] wD fun e w' => e = .returned (.int .i64 (topF vars S.ns (p0, p1, p2))) ∧ Below wD.heap.size wD w') := top_any (HG.out.below hBD) (HR.out.below hBD).c0 (q := (p0, p1, p2)) hpf hpg hph
      have HH1 : Hid (∀ wx, Below w.heap.size w wx → Calls Tryd.prog 77 #[.pointer (some ⟨rb, 0, none⟩), .agg #[.int .i64 p0, .int .i64 p1, .int .i64 p2], .int .i64 (topF vars S.ns (p0, p1, p2)), .int .i64 1] wx fun e w' => e = .returned (t3v (halfF S.ns (topF vars S.ns (p0, p1, p2)) false (p0, p1, p2))) ∧ Below wx.heap.size wx w') := fun wx hb => half_any (HG.out.below hb) (HR.out.below hb).c0 (q := (p0, p1, p2)) hpf hpg hph (topF vars S.ns (p0, p1, p2)) false
      have s1 := solve_ok (most := most) n S R (halfF S.ns (topF vars S.ns (p0, p1, p2)) false (p0, p1, p2)) (topF vars S.ns (p0, p1, p2) + 1) good HA.out HRS.out m1e m1f (by omega) (by omega) m1g
      obtain ⟨r1, S1, R1, e1⟩ : ∃ r1 S1 R1, solveF vars most P O n S R (halfF S.ns (topF vars S.ns (p0, p1, p2)) false (p0, p1, p2)) = (r1, S1, R1) := ⟨_, _, _, rfl⟩
      have hSR := HSR.out
      rw [e1] at hSR s1
      dsimp only at s1
      have hg1 : S.gone ≤ S1.gone := s1.gone
      have hg2 : S1.gone ≤ SR.2.1.gone := by
        rw [hSR]
        cases r1 with
        | none => exact Nat.le_refl _
        | some no =>
          dsimp only
          have h2 := solveF_gone vars most P O n S1 R1 (halfF S1.ns (topF vars S.ns (p0, p1, p2)) true (p0, p1, p2))
          obtain ⟨r2, S2, R2, e2⟩ : ∃ r2 S2 R2, solveF vars most P O n S1 R1 (halfF S1.ns (topF vars S.ns (p0, p1, p2)) true (p0, p1, p2)) = (r2, S2, R2) := ⟨_, _, _, rfl⟩
          rw [e2] at h2 ⊢
          cases r2 with
          | none => exact h2
          | some yes =>
            dsimp only
            have h3 := nodeF_gone most S2 (P ++ R2.map (·.2) ++ O) (topF vars S.ns (p0, p1, p2)) no yes
            obtain ⟨r3, S3, e3⟩ : ∃ r3 S3, nodeF most S2 (P ++ R2.map (·.2) ++ O) (topF vars S.ns (p0, p1, p2)) no yes = (r3, S3) := ⟨_, _, rfl⟩
            rw [e3] at h3 ⊢
            cases r3 with
            | none => exact Nat.le_trans h2 h3
            | some f => exact Nat.le_trans h2 h3
      have hreg1 : Reg full S S1 := HREG.out.imp id (fun h => ⟨h.1, by have := h.2; omega⟩)
      have HI1 : Hid (∀ wx, Below w.heap.size w wx → Calls Tryd.prog 61 #[.pointer (some ⟨rb, 0, none⟩), t3v (halfF S.ns (topF vars S.ns (p0, p1, p2)) false (p0, p1, p2))] wx fun e w' => e = .returned (ansV r1) ∧ (full = false → S1.sp = []) ∧ ∃ F', Gr w' F' g vars most S1 pn ∧ Rn w' F' rb g (some r) O R1 ∧ Ch wx w' (Fm F r) (Fm F' r)) := fun wx hb => by
        have h := IH wx F g vars most rb r O R S pn P (halfF S.ns (topF vars S.ns (p0, p1, p2)) false (p0, p1, p2)) (topF vars S.ns (p0, p1, p2) + 1) (HG.out.below hb) (HR.out.below hb) HPP.out HA.out HRS.out m1e m1f (by omega) (by omega) m1g (by rw [e1]; exact hreg1)
        rw [e1] at h
        exact h
      have HM1 : Hid _ := And.intro m1a (And.intro m1c (And.intro m1d m1f))
      have HS1 : Hid _ := s1
      have HSR1 : Hid _ := hSR
      have HR1 : Hid (Reg full S1 SR.2.1 ∨ full = false) := by
        rcases HREG.out with h | h
        · exact Or.inl (Or.inl h)
        · cases full
          · exact Or.inr rfl
          · exact Or.inl (Or.inl rfl)
      have HGO : Hid (full = false → SR.2.1.gone = S1.gone) := fun e => by
        have h := (HREG.out.resolve_left (by simp [e])).2
        omega
      have HT0 : Hid (0 ≤ topF vars S.ns (p0, p1, p2) ∧ topF vars S.ns (p0, p1, p2) < vars ∧ (vars : Int) - (topF vars S.ns (p0, p1, p2) + 1) < n) := ⟨m1b, m1c, m1g⟩
      obtain ⟨h1, hh1⟩ : ∃ h1, h1 = halfF S.ns (topF vars S.ns (p0, p1, p2)) false (p0, p1, p2) := ⟨_, rfl⟩
      rw [← hh1] at HH1 HI1 HS1 HM1
      have HHE : Hid _ := hh1
      obtain ⟨top, htop⟩ : ∃ top, top = topF vars S.ns (p0, p1, p2) := ⟨_, rfl⟩
      rw [← htop] at HT HH1 HM1 HT0 HSR1 HHE
      have HTE : Hid _ := htop
      clear e1 m1a m1b m1c m1d m1e m1f m1g hpf hph hpg s1 hSR hg1 hg2 hreg1 hh1 htop HSR
      refine (HT.out).mono ?_
      rintro e wE ⟨rfl, hb⟩
      have hBE := hBD.trans (hb.mono hBD.size)
      have hQE := hQD.kept (hb.block _ hQD.lt)
      have b0 := hQE.c0
      have b1 := hQE.c1
      have b2 := hQE.c2
      dsimp only at b0 b1 b2
      clear hb hBD hQD HT wD
      go_wp2_with fail
      refine (HH1.out wE hBE).mono ?_
      rintro e wF ⟨rfl, hb⟩
      have hBF := hBE.trans (hb.mono hBE.size)
      have hQF := hQE.kept (hb.block _ hQE.lt)
      clear hb hBE hQE b0 b1 b2 wE
      go_wp2_with fail
      refine (HI1.out wF hBF).mono ?_
      rintro e w1 ⟨he, hsp1, F1, hG1, hR1, hC1⟩
      have hnb : ¬ Fm F r w.heap.size := fun h => by
        rcases h with h | h
        · have := HFL.out _ h; omega
        · omega
      have hQ1 := hQF.kept (hC1.block _ hQF.lt hnb)
      have hnb1 : ¬ Fm F1 r w.heap.size := hC1.old hQF.lt hnb
      have hCH1 : Ch w w1 (Fm F r) (Fm F1 r) := (Ch.of_below _ hBF).trans hC1
      have HSP1 : Hid _ := hsp1
      have HG1 : Hid (Gr w1 F1 g vars most S1 pn) := hG1
      have HR1n : Hid (Rn w1 F1 rb g (some r) O R1) := hR1
      have HCH1 : Hid _ := hCH1
      have HNB1 : Hid _ := hnb1
      clear hsp1 hG1 hR1 hC1 hnb hCH1 hnb1 hBF hQF
      cases r1 with
      | none =>
        have he' : e = .returned (.tuple #[.int .i64 0, .int .i64 141]) := he
        subst he'
        clear he
        have es : SR = (none, S1, R1) := HSR1.out
        have HES : Hid _ := es
        clear es
        go_wp2_with fail
        refine bodyPost_ret (v := .tuple #[.int .i64 0, .int .i64 141]) (by simp [results, Tryd.results61, go_sem]) rfl ?_
        rw [HES.out]
        exact ⟨rfl, HSP1.out, F1, HG1.out, HR1n.out, HCH1.out⟩
      | some no =>
        have he' : e = .returned (.tuple #[.int .i64 no, .int .i64 0]) := he
        subst he'
        clear he
        obtain ⟨m1a, m1c, m1d, m1f⟩ := HM1.out
        rw [HTE.out] at m1c m1d m1f
        have hs1' := HS1.out
        obtain ⟨hA1, pq1, m2e, m2f⟩ := mid2 good HA.out m1a m1d m1c hs1'
        have hgood1 := hs1'.good
        have hO1 : ∀ i ∈ O, alive S1.ns i := fun i hi => hA1 i (by simp [hi])
        have hpf1 := ent_of hgood1 hO1 pq1.f
        have hph1 := ent_of hgood1 hO1 pq1.h
        have hpg1 : Ent S1.ns p1 := pq1.g.elim Or.inl (ent_of hgood1 hO1)
        obtain ⟨t0, t1, t2⟩ := HT0.out
        rw [HTE.out] at t0 t1 t2
        have HH2 : Hid (∀ wx, Below w1.heap.size w1 wx → Calls Tryd.prog 77 #[.pointer (some ⟨rb, 0, none⟩), .agg #[.int .i64 p0, .int .i64 p1, .int .i64 p2], .int .i64 top, .int .i64 2] wx fun e w' => e = .returned (t3v (halfF S1.ns top true (p0, p1, p2))) ∧ Below wx.heap.size wx w') := fun wx hb => half_any (HG1.out.below hb) (HR1n.out.below hb).c0 (q := (p0, p1, p2)) hpf1 hpg1 hph1 top true
        have s2 := solve_ok (most := most) n S1 R1 (halfF S1.ns (topF vars S.ns (p0, p1, p2)) true (p0, p1, p2)) (topF vars S.ns (p0, p1, p2) + 1) hgood1 hA1 hs1'.rs m2e m2f (by omega) (by omega) t2
        obtain ⟨r2, S2, R2, e2⟩ : ∃ r2 S2 R2, solveF vars most P O n S1 R1 (halfF S1.ns (topF vars S.ns (p0, p1, p2)) true (p0, p1, p2)) = (r2, S2, R2) := ⟨_, _, _, rfl⟩
        have hSR := HSR1.out
        dsimp only at hSR
        rw [HTE.out, e2] at hSR
        rw [e2] at s2
        dsimp only at s2
        have hg3 : S1.gone ≤ S2.gone := s2.gone
        have hg4 : S2.gone ≤ SR.2.1.gone := by
          rw [hSR]
          cases r2 with
          | none => exact Nat.le_refl _
          | some yes =>
            dsimp only
            have h3 := nodeF_gone most S2 (P ++ R2.map (·.2) ++ O) (topF vars S.ns (p0, p1, p2)) no yes
            obtain ⟨r3, S3, e3⟩ : ∃ r3 S3, nodeF most S2 (P ++ R2.map (·.2) ++ O) (topF vars S.ns (p0, p1, p2)) no yes = (r3, S3) := ⟨_, _, rfl⟩
            rw [e3] at h3 ⊢
            cases r3 with
            | none => exact h3
            | some f => exact h3
        have hreg2 : Reg full S1 S2 := by
          cases hf : full
          · exact Or.inr ⟨HSP1.out hf, by have := HGO.out hf; omega⟩
          · exact Or.inl rfl
        have HGO2 : Hid (full = false → SR.2.1.gone = S2.gone) := fun e => by have := HGO.out e; omega
        have HI2 : Hid (∀ wx, Below w1.heap.size w1 wx → Calls Tryd.prog 61 #[.pointer (some ⟨rb, 0, none⟩), t3v (halfF S1.ns top true (p0, p1, p2))] wx fun e w' => e = .returned (ansV r2) ∧ (full = false → S2.sp = []) ∧ ∃ F', Gr w' F' g vars most S2 pn ∧ Rn w' F' rb g (some r) O R2 ∧ Ch wx w' (Fm F1 r) (Fm F' r)) := fun wx hb => by
          have h := IH wx F1 g vars most rb r O R1 S1 pn P (halfF S1.ns (topF vars S.ns (p0, p1, p2)) true (p0, p1, p2)) (topF vars S.ns (p0, p1, p2) + 1) (HG1.out.below hb) (HR1n.out.below hb) HPP.out hA1 hs1'.rs m2e m2f (by omega) (by omega) t2 (by rw [e2]; exact hreg2)
          rw [e2] at h
          rw [HTE.out]
          exact h
        have HS2 : Hid _ := s2
        have HA1 : Hid _ := hA1
        have HM2 : Hid _ := And.intro m1a (And.intro m1c (And.intro m1f m2f))
        have HSR2 : Hid _ := hSR
        obtain ⟨h2, hh2⟩ : ∃ h2, h2 = halfF S1.ns top true (p0, p1, p2) := ⟨_, rfl⟩
        rw [← hh2] at HH2 HI2
        have b0 := hQ1.c0
        have b1 := hQ1.c1
        have b2 := hQ1.c2
        dsimp only at b0 b1 b2
        clear m1a m1c m1d m1f hs1' hA1 pq1 m2e m2f hgood1 hO1 hpf1 hph1 hpg1 t0 t1 t2 s2 e2 hSR hg3 hg4 hreg2 hh2
        go_wp2_with fail
        refine (HH2.out w1 (Below.refl _ _)).mono ?_
        rintro e wG ⟨rfl, hb⟩
        have hQG := hQ1.kept (hb.block _ hQ1.lt)
        have hBG := hb
        clear b0 b1 b2 hb
        go_wp2_with fail
        refine (HI2.out wG hBG).mono ?_
        rintro e w2 ⟨he, hsp2, F2, hG2, hR2, hC2⟩
        have hQ2 := hQG.kept (hC2.block _ hQG.lt HNB1.out)
        have hnb2 : ¬ Fm F2 r w.heap.size := hC2.old hQG.lt HNB1.out
        have hCH2 : Ch w w2 (Fm F r) (Fm F2 r) := HCH1.out.trans ((Ch.of_below _ hBG).trans hC2)
        have HSP2 : Hid _ := hsp2
        have HG2 : Hid (Gr w2 F2 g vars most S2 pn) := hG2
        have HR2n : Hid (Rn w2 F2 rb g (some r) O R2) := hR2
        have HCH2 : Hid _ := hCH2
        have HNB2 : Hid _ := hnb2
        clear hsp2 hG2 hR2 hC2 hnb2 hCH2 hBG hQG hQ1
        cases r2 with
        | none =>
          have he' : e = .returned (.tuple #[.int .i64 0, .int .i64 141]) := he
          subst he'
          clear he
          have es : SR = (none, S2, R2) := HSR2.out
          have HES : Hid _ := es
          clear es
          go_wp2_with fail
          refine bodyPost_ret (v := .tuple #[.int .i64 0, .int .i64 141]) (by simp [results, Tryd.results61, go_sem]) rfl ?_
          rw [HES.out]
          exact ⟨rfl, HSP2.out, F2, HG2.out, HR2n.out, HCH2.out⟩
        | some yes =>
          have he' : e = .returned (.tuple #[.int .i64 yes, .int .i64 0]) := he
          subst he'
          clear he
          obtain ⟨m1a, m1c, m1f, m2f⟩ := HM2.out
          have hs1' := HS1.out
          rw [HHE.out, HTE.out] at hs1'
          rw [HHE.out, HTE.out] at m1f
          obtain ⟨hA2, hno2, hye2, vno, vye, hkeys⟩ := mid3 good HA.out m1a m1c m1f hs1' HA1.out m2f HS2.out
          obtain ⟨t0, t1, t2⟩ := HT0.out
          have hkeys' := hkeys HLK.out
          rw [← HTE.out] at vno vye
          have hsr := HSR2.out
          dsimp only at hsr
          rw [← HTE.out] at hsr
          obtain ⟨r3, S3, e3⟩ : ∃ r3 S3, nodeF most S2 (P ++ valsR R2 ++ O) top no yes = (r3, S3) := ⟨_, _, rfl⟩
          have e3' : nodeF most S2 (P ++ R2.map (·.2) ++ O) top no yes = (r3, S3) := e3
          rw [e3'] at hsr
          have hg5 : S2.gone ≤ S3.gone := by have := nodeF_gone most S2 (P ++ valsR R2 ++ O) top no yes; rw [e3] at this; exact this
          have hg6 : SR.2.1.gone = S3.gone := by rw [hsr]; cases r3 <;> rfl
          have hreg3 : Reg full S2 S3 := by
            cases hf : full
            · exact Or.inr ⟨HSP2.out hf, by have := HGO2.out hf; omega⟩
            · exact Or.inl rfl
          have HND : Hid (Calls Tryd.prog 48 #[.pointer (some ⟨rb, 0, none⟩), .int .i64 top, .int .i64 no, .int .i64 yes] w2 fun e w' => e = .returned (ansV r3) ∧ (full = false → S3.sp = []) ∧ Did w2 F2 g vars most S3 pn w') := by
            have h := NC w2 F2 g vars most rb (some r) O R2 S2 pn P top no yes HG2.out HR2n.out HPP.out hA2 ⟨t0, t1⟩ hno2 hye2 vno vye (by rw [e3]; exact hreg3)
            rw [e3] at h
            exact h
          have HSR3 : Hid _ := hsr
          have HKEY : Hid _ := hkeys'
          clear m1a m1c m1f m2f hs1' hA2 hno2 hye2 vno vye hkeys hkeys' t0 t1 t2 hsr e3 e3' hg5 hg6 hreg3
          go_wp2_with fail
          refine (HND.out).mono ?_
          rintro e w3 ⟨he, hsp3, F3, hG3, hC3⟩
          have hC3' := hC3.plus r
          have hQ3 := hQ2.kept (hC3'.block _ hQ2.lt HNB2.out)
          have hR3 := HR2n.out.ch hC3
          have hCH3 : Ch w w3 (Fm F r) (Fm F3 r) := HCH2.out.trans hC3'
          have HSP3 : Hid _ := hsp3
          have HG3 : Hid (Gr w3 F3 g vars most S3 pn) := hG3
          have HR3n : Hid (Rn w3 F3 rb g (some r) O R2) := hR3
          have HCH3 : Hid _ := hCH3
          clear hsp3 hG3 hR3 hC3 hC3' hCH3 hQ2
          cases r3 with
          | none =>
            have he' : e = .returned (.tuple #[.int .i64 0, .int .i64 141]) := he
            subst he'
            clear he
            have es : SR = (none, S3, R2) := HSR3.out
            have HES : Hid _ := es
            clear es
            go_wp2_with fail
            refine bodyPost_ret (v := .tuple #[.int .i64 0, .int .i64 141]) (by simp [results, Tryd.results61, go_sem]) rfl ?_
            rw [HES.out]
            exact ⟨rfl, HSP3.out, F3, HG3.out, HR3n.out, HCH3.out⟩
          | some f =>
            have he' : e = .returned (.tuple #[.int .i64 f, .int .i64 0]) := he
            subst he'
            clear he
            have es : SR = (some f, S3, R2 ++ [((p0, p1, p2), f)]) := HSR3.out
            have HES : Hid _ := es
            clear es
            have c2 := HR3n.out.c2
            have b0 := hQ3.c0
            have b1 := hQ3.c1
            have b2 := hQ3.c2
            dsimp only at b0 b1 b2
            obtain ⟨X, hmu', hM2, hgr2, -⟩ := Mp.store (w := w3.drew) (val := .int .i64 f) (HR3n.out.map.1.kept (w' := w3.drew) rfl) qLaw underQMap HKL.out (fun x hx he => by
              obtain ⟨p', hp', rfl⟩ := rsL_key hx
              exact HKEY.out p' hp' (t3v_inj he))
            have hmu : (Instr.mapUpdate 94 (.map (some r)) (.agg #[.int .i64 p0, .int .i64 p1, .int .i64 p2]) (.int .i64 f)).run Tryd.prog w3.drew = .ok () X := hmu'
            have HEND : Hid (Gr X F3 g vars most S3 pn ∧ Rn X F3 rb g (some r) O (R2 ++ [((p0, p1, p2), f)]) ∧ Ch w X (Fm F r) (Fm F3 r)) :=
              ⟨HG3.out.grown hgr2 HR3n.out.map.2, HR3n.out.put HKEY.out hM2 hgr2, HCH3.out.trans (Ch.grown hgr2 (Or.inr rfl))⟩
            clear hmu' hM2 hgr2 hQ3
            go_wp2_with fail
            go_region
            all_goals
              go_wp2_with fail
              refine bodyPost_ret (v := .tuple #[.int .i64 f, .int .i64 0]) (by simp [results, Tryd.results61, go_sem]) rfl ?_
              rw [HES.out]
              exact ⟨rfl, HSP3.out, F3, HEND.out.1, HEND.out.2.1, HEND.out.2.2⟩
theorem solve_any {full : Bool} (NC : NodeC full) : ∀ n, SolveC full n := by
  intro n
  induction n with
  | zero =>
    intro w F g vars most rb r O R S pn P q t _ _ _ _ _ _ _ _ h1 h2
    exfalso; omega
  | succ n ih => exact solve_step NC n ih
end Go.Proofs.YtkmkmgnfolpphaaDoor
