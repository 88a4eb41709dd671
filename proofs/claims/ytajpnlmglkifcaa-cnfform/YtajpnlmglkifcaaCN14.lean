/- Contracts (the law's run): root. (Made by a script.) -/
import Derived.Test.YtajpnlmglkifcaaCN13
import Derived.Test.YtajpnlmglkifcaaCNP
namespace Go.Proofs.Ytajpnlmglkifcaa
open Go.RowKit
set_option linter.unusedSimpArgs false
set_option linter.unusedVariables false

theorem cls_ne (ks : List Kd) (V : Int → Option Int) (L : List Nat) : ∀ c ∈ clsL ks V L, c ≠ [] ∧ c.length ≤ 3 := by
  intro c hc
  unfold clsL at hc
  obtain ⟨x, -, hx⟩ := List.mem_flatMap.1 hc
  unfold cls at hx
  split at hx
  · rw [List.mem_singleton.1 hx]; simp
  · split at hx
    · cases hx
    · split at hx
      · split at hx
        · rw [List.mem_singleton.1 hx]; simp
        · rcases List.mem_cons.1 hx with e | e
          · rw [e]; simp
          · rw [List.mem_singleton.1 e]; simp
      · cases hx
/-- A slice of n things, by a number. -/
def dec (n p : Nat) : Value := if p % 2 = 0 then .slice none n (p / 2) else .slice (some ⟨p / 2 / 2 ^ 64, 0, none⟩) n (p / 2 % 2 ^ 64)
theorem dec_of {w : World} {base : Nat} {e : TypeId} {sz n : Nat} {v : Value} {xs : List Value} (h : w.ownsRow base e sz v n xs) : ∃ p, v = dec n p := by
  rcases h.2 with ⟨rfl, h0⟩ | ⟨g, c, cur, rfl, -, -, -, hc, -⟩
  · exact ⟨0, by rw [h0]; rfl⟩
  · refine ⟨2 * (g * 2 ^ 64 + c) + 1, ?_⟩
    have hc' : c < 2 ^ 64 := by unfold maxLen at hc; omega
    unfold dec
    rw [if_neg (by omega), show (2 * (g * 2 ^ 64 + c) + 1) / 2 = g * 2 ^ 64 + c by omega, show (g * 2 ^ 64 + c) / 2 ^ 64 = g by omega, show (g * 2 ^ 64 + c) % 2 ^ 64 = c by omega]
theorem dec_sl (n p : Nat) : ∃ a c, dec n p = .slice a n c := by
  unfold dec
  split
  · exact ⟨_, _, rfl⟩
  · exact ⟨_, _, rfl⟩
/-- Behind the append. -/
structure AP (x0 : World) (B X : Nat) (va : Value) (us : List Value) (C C1 : List (List Int)) (cx : Array Value) (TR : TypeId) (va3 : Value) (w3 : World) : Prop where
  ex : ∃ us2 w2, Ls w3 B va3 (us ++ us2) (C ++ C1) ∧ w2.grownBy w3 va.ownBlock ∧ (va3.ownBlock = va.ownBlock ∨ va3.ownBlock = some w2.heap.size) ∧ Below x0.heap.size x0 w2 ∧ (∀ u ∈ us2, ∀ k, u.ownBlock = some k → x0.heap.size ≤ k ∧ k < w2.heap.size)
  hx : w3.heap[X]? = some (.cells cx TR (0, 0))
/-- How far 'x.all = append(x.all, CopyLists(c)...)' has come: 4 loads, 6 calls, 7 appends, 10 stores. -/
structure AS (x0 : World) (B X : Nat) (va : Value) (us : List Value) (C C1 : List (List Int)) (cx : Array Value) (TR : TypeId) (g : Nat → Nat) (L : Nat → Bool) (x : World) : Prop where
  a0 : L 6 = false → x.heap = x0.heap ∧ x.os = x0.os ∧ x.tape = x0.tape ∧ x.output = x0.output
  a1 : L 6 = true → L 7 = false → Below x0.heap.size x0 x ∧ ∃ us2, Ls x x0.heap.size (dec C1.length (g 6)) us2 C1
  a2 : L 7 = true → L 10 = false → AP x0 B X va us C C1 cx TR (dec (C.length + C1.length) (g 7)) x
  a3 : L 10 = true → ∃ w3, AP x0 B X va us C C1 cx TR (dec (C.length + C1.length) (g 7)) w3 ∧ x = w3.setCell ⟨X, 2, none⟩ (dec (C.length + C1.length) (g 7))
  d1 : L 7 = true → L 6 = true
  d2 : L 10 = true → L 7 = true
  d3 : L 7 = true → L 4 = true
section
variable {x0 : World} {B X : Nat} {va : Value} {us : List Value} {C C1 : List (List Int)} {cx : Array Value} {TR : TypeId} {g : Nat → Nat} {L : Nat → Bool} {x y : World} {i : Nat}
theorem AS.start (h0 : x.heap = x0.heap) (h1 : x.os = x0.os) (h2 : x.tape = x0.tape) (h3 : x.output = x0.output) : AS x0 B X va us C C1 cx TR g (fun _ => false) x :=
  ⟨fun _ => ⟨h0, h1, h2, h3⟩, (fun e => by cases e), (fun e => by cases e), (fun e => by cases e), (fun e => by cases e), (fun e => by cases e), (fun e => by cases e)⟩
theorem AS.go (h : AS x0 B X va us C C1 cx TR g L x) (hi : (i != 6 && i != 7 && i != 10) = true) : AS x0 B X va us C C1 cx TR g (updB L i) x := by
  simp only [Bool.and_eq_true, bne_iff_ne, ne_eq] at hi
  have u6 := updB_ne (L := L) (i := i) (k := 6) (by omega)
  have u7 := updB_ne (L := L) (i := i) (k := 7) (by omega)
  have u10 := updB_ne (L := L) (i := i) (k := 10) (by omega)
  exact ⟨by rw [u6]; exact h.a0, by rw [u6, u7]; exact h.a1, by rw [u7, u10]; exact h.a2, by rw [u10]; exact h.a3, by rw [u6, u7]; exact h.d1, by rw [u7, u10]; exact h.d2, by rw [u7]; exact fun e => upB_on (h.d3 e)⟩
theorem AS.low (h : AS x0 B X va us C C1 cx TR g L x) (h7 : L 7 = false) : Below x0.heap.size x0 x := by
  cases h6 : L 6 with
  | false =>
    obtain ⟨q0, q1, q2, q3⟩ := h.a0 h6
    exact ⟨q1, q2, q3, by rw [q0]; exact Nat.le_refl _, fun k _ => by rw [q0]⟩
  | true => exact (h.a1 h6 h7).1
theorem AS.call {p : Nat} {us2 : List Value} (h : AS x0 B X va us C C1 cx TR g L x) (hLi : L 6 = false) (hb : Below x.heap.size x y) (hl : Ls y x.heap.size (dec C1.length p) us2 C1) : AS x0 B X va us C C1 cx TR (updG g 6 p) (updB L 6) y := by
  have h7 : L 7 = false := off_of h.d1 hLi
  have h10 : L 10 = false := off_of h.d2 h7
  obtain ⟨q0, q1, q2, q3⟩ := h.a0 hLi
  have hb' : Below x0.heap.size x0 y := by
    rw [q0] at hb
    exact ⟨hb.os.trans q1, hb.tape.trans q2, hb.output.trans q3, by have := hb.size; rw [q0] at this; exact this, fun k hk => by rw [hb.block k hk, q0]⟩
  rw [q0] at hl
  refine ⟨(fun e => by rw [updB_eq] at e; cases e), fun _ _ => ⟨hb', us2, by rw [updG_eq]; exact hl⟩, (fun e => by rw [show updB L 6 7 = L 7 from rfl, h7] at e; cases e), (fun e => by rw [show updB L 6 10 = L 10 from rfl, h10] at e; cases e), (fun e => by rw [show updB L 6 7 = L 7 from rfl, h7] at e; cases e), (fun e => by rw [show updB L 6 10 = L 10 from rfl, h10] at e; cases e), (fun e => by rw [show updB L 6 7 = L 7 from rfl, h7] at e; cases e)⟩
theorem AS.app {p : Nat} (h : AS x0 B X va us C C1 cx TR g L x) (hLi : L 7 = false) (h4 : L 4 = true) (h6 : L 6 = true) (hy : AP x0 B X va us C C1 cx TR (dec (C.length + C1.length) p) y) : AS x0 B X va us C C1 cx TR (updG g 7 p) (updB L 7) y := by
  have h10 : L 10 = false := off_of h.d2 hLi
  refine ⟨(fun e => by rw [show updB L 7 6 = L 6 from rfl, h6] at e; cases e), (fun _ e => by rw [updB_eq] at e; cases e), fun _ _ => by rw [updG_eq]; exact hy, (fun e => by rw [show updB L 7 10 = L 10 from rfl, h10] at e; cases e), fun _ => h6, (fun e => by rw [show updB L 7 10 = L 10 from rfl, h10] at e; cases e), fun _ => h4⟩
theorem AS.store (h : AS x0 B X va us C C1 cx TR g L x) (hLi : L 10 = false) (h7 : L 7 = true) : AS x0 B X va us C C1 cx TR g (updB L 10) (x.setCell ⟨X, 2, none⟩ (dec (C.length + C1.length) (g 7))) :=
  ⟨(fun e => by rw [show updB L 10 6 = L 6 from rfl, h.d1 h7] at e; cases e), (fun _ e => by rw [show updB L 10 7 = L 7 from rfl, h7] at e; cases e), (fun _ e => by rw [updB_eq] at e; cases e), fun _ => ⟨x, h.a2 h7 hLi, rfl⟩, h.d1, fun _ => h7, h.d3⟩
end
/-- An append whose end is known. -/
theorem wp_app_eq {P : Program} (w : World) {o : Oper} {a : Act} {K : Act → World → Prop} {Q : Exit → Act → World → Prop} (s x : Operand) (t : TypeId)
    (ho : o.op = .call { callee := .builtin .append, args := #[s, x], argTypes := #[t, t] }) (v u v' : Value) (w' : World) (hs : a.eval s = v) (hx : a.eval x = u) (hr : (Builtin.append_ #[t, t] o.type #[v, u]).run P w = .ok v' w') (h : K (a.put o.dst v') w') : o.wp P a w K Q := by
  unfold Oper.wp execOp
  simp only [ho, resolve, invoke, builtin, Sem.run_bind, Sem.run_pure, Result.andThen_ok, List.map_toArray, List.map_cons, List.map_nil, hs, hx, hr]
  exact h
/-- The append itself. -/
theorem AP.of {x0 x : World} {B X : Nat} {va v2 : Value} {us us2 : List Value} {C C1 : List (List Int)} {cx : Array Value} {TR ty : TypeId} (hb : Below x0.heap.size x0 x) (hA : Ls x0 B va us C) (hB : B ≤ x0.heap.size) (hl2 : Ls x x0.heap.size v2 us2 C1) (hn : C.length + C1.length ≤ 1000000) (hX : x0.heap[X]? = some (.cells cx TR (0, 0))) (hXv : va.ownBlock ≠ some X) :
    ∃ p w3, (Builtin.append_ #[30, 30] ty #[va, v2]).run Try.prog x = .ok (dec (C.length + C1.length) p) w3 ∧ AP x0 B X va us C C1 cx TR (dec (C.length + C1.length) p) w3 := by
  obtain ⟨a2, c2, rfl, hat2⟩ := hl2.sl
  have hAL2 : Ls x B va us C := hA.below hb
  have hs := hb.size
  obtain ⟨va3, w3, hap, hown3, hg3, hat3⟩ := app_lists x ty (c := c2) (m := C1.length) (ad := a2) (news := us2) hAL2.row hl2.len (hat2.imp id (fun ⟨r, e1, _, _, e4⟩ => ⟨⟨r, 0, none⟩, e1, fun j u hj => by
    have e5 : (⟨r, 0, none⟩ : Addr).add j = ⟨r, j, none⟩ := (by simp [Addr.add]; try (intro hq; exact hq.symm))
    rw [e5]; exact e4 j u hj⟩)) hl2.ones (by have := hAL2.len; omega) (by omega)
  have hXl : X < x0.heap.size := (Array.getElem?_eq_some_iff.1 hX).1
  obtain ⟨p, hp⟩ := dec_of hown3
  rw [hAL2.len] at hp
  subst hp
  refine ⟨p, w3, hap, ⟨us2, x, hAL2.app hl2 hB (fun k hk => (hA.row.lt k hk).2) (fun u hu k hk => ?_) (by rw [hl2.len]; exact hown3) hg3 hat3, hg3, hat3, hb, fun u hu k hk => ?_⟩, (hg3.block X (by omega) (fun q => hXv q.symm)).trans ((hb.block X hXl).trans hX)⟩
  · obtain ⟨i, hi⟩ := List.mem_iff_getElem?.1 hu
    have hil : i < C.length := by rw [← hA.len]; exact (List.getElem?_eq_some_iff.1 hi).1
    exact ((hA.cl i u _ hi (List.getElem?_eq_getElem hil)).1.lt k hk).2
  · obtain ⟨i, hi⟩ := List.mem_iff_getElem?.1 hu
    have hil : i < C1.length := by rw [← hl2.len]; exact (List.getElem?_eq_some_iff.1 hi).1
    exact (hl2.cl i u _ hi (List.getElem?_eq_getElem hil)).1.lt k hk
theorem RnX.keep {w w' : World} {B X g e mo mv mp : Nat} {F : Nat → Prop} {col : Nat → Nat} {va vl vr : Value} {us : List Value} {s : Rz} (h : RnX w B X g e mo mv mp F col va vl vr us s) (hs : w.heap.size ≤ w'.heap.size) (hk : ∀ q, q < w.heap.size → col q ≤ 7 → w'.heap[q]? = w.heap[q]?) : RnX w' B X g e mo mv mp F col va vl vr us s :=
  ⟨(hk X h.lt (by have := h.cX.1; omega)).trans h.hd, h.gr.kept (fun k q hf => hk k q (by have := (h.cF k hf).2.1; omega)), h.en.kept (fun b hb => by
    have q1 := h.ce.1
    have q2 := h.cv.1
    have q3 := h.cp.1
    rcases hb with rfl | rfl | rfl
    · exact hk _ h.en.lt (by omega)
    · exact hk _ h.en.vs.lt (by omega)
    · exact hk _ h.en.ps.lt (by omega)), h.al.own (fun k q hh => hk k q (by
    rcases hh with hh | ⟨u, hu, hh⟩
    · have := h.ca k hh; omega
    · have := h.cu u hu k hh; omega)), row_own h.li (fun k hh => hk k (h.li.lt k hh).2 (by have := h.cl k hh; omega)), row_own h.ro (fun k hh => hk k (h.ro.lt k hh).2 (by have := h.cr k hh; omega)), fun k hf => ⟨Nat.lt_of_lt_of_le (h.cF k hf).1 hs, (h.cF k hf).2⟩, h.ce, h.cv, h.cp, h.cX, h.ca, h.cu, h.cl, h.cr⟩
theorem RnX.ult {w : World} {B X g e mo mv mp : Nat} {F : Nat → Prop} {col : Nat → Nat} {va vl vr : Value} {us : List Value} {s : Rz} (h : RnX w B X g e mo mv mp F col va vl vr us s) : ∀ u ∈ us, ∀ k, u.ownBlock = some k → k < w.heap.size := fun u hu k hk => by
  obtain ⟨i, hi⟩ := List.mem_iff_getElem?.1 hu
  have hil : i < s.C.length := by rw [← h.al.len]; exact (List.getElem?_eq_some_iff.1 hi).1
  exact ((h.al.cl i u _ hi (List.getElem?_eq_getElem hil)).1.lt k hk).2
set_option maxRecDepth 20000 in
set_option maxHeartbeats 25600000 in
theorem rroot_any {w : World} {B X g e mo mv mp l : Nat} {s : Rz} {first : Int} {f : Nat} (h : Rn w B X g e mo mv mp s) (hp : Pz first f s) (h1 : 1 ≤ first) (hvb : s.vars ≤ 30000) (hmo : mo ≤ 1000) (hl : l / 2 < s.ks.length) (hC : s.C.length ≤ 50000) (hLt : s.Lt.length ≤ 50000) (hBw : B ≤ w.heap.size) :
    Calls Try.prog 29 #[.pointer (some ⟨X, 0, none⟩), .int .i64 (l : Int)] w fun ev w' => ev = .returned (.tuple #[]) ∧ ∃ L, UO s.ks s.T (max l 1) L ∧ Rn w' B X g e mo mv mp (rtS s L l) ∧ Below B w w' := by
  obtain ⟨F, col, va, vl, vr, us, hX⟩ := h
  have c1 : w.cell? ⟨X, 1, none⟩ = some (.pointer (some ⟨e, 0, none⟩)) := cell_of hX.hd 1 rfl
  have hlen := hX.gr.len
  have hpl := hp.len
  have hrng : ∀ n, 0 ≤ (s.V n).getD 0 ∧ (s.V n).getD 0 ≤ 1000000 := fun n => by have := hp.rng h1 n; omega
  have HF : Hid (∀ k, F k → k < w.heap.size ∧ k ≠ e ∧ k ≠ mv ∧ k ≠ mp) := fun k hk => by
    obtain ⟨q1, q2, q3⟩ := hX.cF k hk
    have r1 := hX.ce.1
    have r2 := hX.cv.1
    have r3 := hX.cp.1
    refine ⟨q1, ?_, ?_, ?_⟩ <;> (intro q; rw [q] at q2; omega)
  have HRT : Hid _ := root_any hX.en hX.gr HF.out hl (by omega) (by omega) (by omega) hrng
  have H : Hid _ := hX
  have HP : Hid _ := hp
  have hxl := hX.lt
  obtain ⟨ti, ht0, hz0, hz1, hz2⟩ := info_any infoInt
  have HI : Hid _ := (⟨ht0, hz0, hz1, hz2⟩ : Try.prog.info? 3 = some ti ∧ ti.zero = _ ∧ ti.size = 1 ∧ ti.bytes = 8)
  have hks : s.ks.length ≤ 10000 := by omega
  clear hX hp hrng hlen hpl ht0 hz0 hz1 hz2
  go_enter Try.func29, Try.ntmps29
  go_wp2_with fail
  refine Calls.mono HRT.out ?_
  rintro ev w1 ⟨L, v, rfl, hUO, hE1, hG1, ⟨B1, b1, us1, hGt1, hB1⟩, hTn1⟩
  obtain ⟨hP2, hr0⟩ := HP.out.root h1 hUO
  have hstep : Hid (max l 1 ∈ s.T ++ L) := List.mem_append.2 hUO.st
  have hhead : (rtS s L l).V = asg s.V s.vars (Lib.compact (nats (nmL s.V L))) := rfl
  rw [hhead] at hr0
  clear hhead
  have HUO : Hid _ := hUO
  have HP2 : Hid _ := hP2
  have hvl2 := hP2.len
  have hrng2 := hP2.rng h1
  have hcl := cls_ne s.ks (asg s.V s.vars (Lib.compact (nats (nmL s.V L)))) L
  have hcln := clsL_len s.ks (asg s.V s.vars (Lib.compact (nats (nmL s.V L)))) L
  have hLl : L.length ≤ 20000 := by
    have := nodup_len (2 * s.ks.length) L (hUO.up.imp fun {a b} h => by omega) (fun x hx => by have := hUO.vf x hx; omega)
    omega
  have hvars2 : (rtS s L l).vars = s.vars + ((Lib.compact (nats (nmL s.V L))).length : Int) := rfl
  have hV2 : (rtS s L l).V = asg s.V s.vars (Lib.compact (nats (nmL s.V L))) := rfl
  have hNN : ((Lib.compact (nats (nmL s.V L))).length : Int) ≤ 10000 := by
    have hNL := compact_list (nm_up (V := s.V) hUO.up)
    have hNm : ∀ x ∈ Lib.compact (nats (nmL s.V L)), 0 ≤ x ∧ x < (s.ks.length : Int) := fun x hx => nm_in hUO.vf x ((hNL.1 x).1 hx)
    have := up_len hNL.2 hNm
    omega
  rw [hvars2] at hvl2 hrng2
  rw [hV2] at hrng2
  clear hvars2 hV2
  obtain ⟨NL, hNL⟩ : ∃ y, y = Lib.compact (nats (nmL s.V L)) := ⟨_, rfl⟩
  have HNL : Hid _ := hNL
  rw [← hNL] at hr0 hE1 hGt1 hcl hcln hvl2 hrng2 hNN ⊢
  obtain ⟨V1, hV1⟩ : ∃ y, y = asg s.V s.vars NL := ⟨_, rfl⟩
  have HV1 : Hid _ := hV1
  rw [← hV1] at hr0 hE1 hGt1 hcl hcln hrng2 ⊢
  obtain ⟨C1, hC1⟩ : ∃ y, y = clsL s.ks V1 L := ⟨_, rfl⟩
  have HC1 : Hid _ := hC1
  rw [← hC1] at hGt1 hcl hcln
  obtain ⟨rr, hrr⟩ : ∃ y, y = lit V1 l := ⟨_, rfl⟩
  have HRR : Hid _ := hrr
  rw [← hrr] at hr0 ⊢
  have hLs1 := hGt1.ls (fun c hc => by have := (hcl c hc).2; omega)
  have HLS1 : Hid (Ls w1 B1 v us1 C1) := hLs1
  have HGT : Hid (Gt w1 B1 b1 v us1 C1) := hGt1
  have HNE : Hid (∀ c ∈ C1, c ≠ [] ∧ c.length ≤ 1000) := fun c hc => ⟨(hcl c hc).1, by have := (hcl c hc).2; omega⟩
  have HLN : Hid (C1.length ≤ 90000) := by unfold Hid; omega
  obtain ⟨m1, hm1⟩ : ∃ y, y = C1.length := ⟨_, rfl⟩
  have HM1 : Hid _ := hm1
  obtain ⟨av, cv, hv, hvat⟩ := hLs1.sl
  rw [← hm1] at hv
  subst hv
  have HVAT : Hid _ := hvat
  have HE1 : Hid (En w1 e g (s.vars + (NL.length : Int)) mv mp V1 (polF (s.T ++ L))) := hE1
  have HG1 : Hid (Gr w1 F g mo s.ks) := hG1
  have HT1 : Hid (Tn w w1 (fun q => q = e ∨ q = mv ∨ q = mp ∨ w.heap.size ≤ q)) := hTn1
  have hs1 := hTn1.size
  -- the run's own blocks are as they were
  have HK1 : Hid (∀ q, q < w.heap.size → 4 ≤ col q → w1.heap[q]? = w.heap[q]?) := fun q hq hc => hTn1.block q hq (fun hh => by
    have r1 := H.out.ce.1
    have r2 := H.out.cv.1
    have r3 := H.out.cp.1
    rcases hh with hh | hh | hh | hh
    · rw [hh] at hc; omega
    · rw [hh] at hc; omega
    · rw [hh] at hc; omega
    · omega)
  obtain ⟨aa, ca, hva, -⟩ := H.out.al.sl
  subst hva
  have hX1 : w1.heap[X]? = some (.cells #[.pointer (some ⟨g, 0, none⟩), .pointer (some ⟨e, 0, none⟩), .slice aa s.C.length ca, vl, vr, .bool true] 33 (0, 0)) := (HK1.out X hxl (by have := H.out.cX.1; omega)).trans H.out.hd
  have HX1 : Hid _ := hX1
  have HAL1 : Hid (Ls w1 B (.slice aa s.C.length ca) us s.C) := H.out.al.own (fun k hk q => HK1.out k hk (by
    rcases q with q | ⟨u, hu, q⟩
    · have := H.out.ca k q; omega
    · have := H.out.cu u hu k q; omega))
  have d2 : w1.cell? ⟨X, 2, none⟩ = some (.slice aa s.C.length ca) := cell_of hX1 2 rfl
  have hx1l : X < w1.heap.size := by omega
  obtain ⟨nC, hnC⟩ : ∃ y, y = s.C.length := ⟨_, rfl⟩
  have HNC : Hid _ := hnC
  rw [← hnC] at HAL1 d2 HX1 hC
  have hCa : ∀ k, (Value.slice aa nC ca).ownBlock = some k → k ≠ X := fun k hk q => by
    have q1 := H.out.ca k (by rw [← hnC]; exact hk)
    have := H.out.cX.1
    rw [q] at q1; omega
  have HCA : Hid _ := hCa
  have hB1w : B ≤ w1.heap.size := by omega
  clear hUO hP2 hE1 hG1 hGt1 hTn1 hLs1 hcl hvat hNL hV1 hC1 hrr hX1 hnC hm1 hCa HRT c1
  go_wp2_with fail
  refine wp_named fun a0 ha0 => ?_
  have o0 := old_at ha0 (t := 0) rfl
  have o5 := old_at ha0 (t := 5) rfl
  refine wp_region_lin (S := AS w1 B X (.slice aa nC ca) us s.C C1 #[.pointer (some ⟨g, 0, none⟩), .pointer (some ⟨e, 0, none⟩), .slice aa nC ca, vl, vr, .bool true] 33) [6, 7] (fun _ => 0) (by kernel_rfl) (by kernel_rfl) (by rw [← ha0]; kernel_rfl) (AS.start (x := w1.drew) rfl rfl rfl rfl) ?_
  refine' LinAll.cons _ ?_ ?_ ?_
  rotate_left 1
  · intro gg L a x hLi haft hS hK
    have t0 := (hK.old 0 (by kernel_rfl)).trans o0
    (try dsimp only at t0)
    refine go_in (wanted_all rfl) ?_
    intro K hk
    clear haft hK hLi
    go_simp
    exact hk.out gg x (fun _ _ => rfl) (hS.go rfl)
  · intro i hi; exact Or.inl (fun _ _ _ => rfl)
  refine' LinAll.cons _ ?_ ?_ ?_
  rotate_left 1
  · intro gg L a x hLi haft hS hK
    have t0 := (hK.old 0 (by kernel_rfl)).trans o0
    (try dsimp only at t0)
    refine go_in (wanted_all rfl) ?_
    intro K hk
    clear haft hK hLi
    go_simp
    exact hk.out gg x (fun _ _ => rfl) (hS.go rfl)
  · intro i hi; exact Or.inl (fun _ _ _ => rfl)
  refine' LinAll.cons _ ?_ ?_ ?_
  rotate_left 1
  · intro gg L a x hLi haft hS hK
    have t22 := hK.new 1 0 _ 22 _ rfl rfl rfl (by kernel_rfl) (waits haft 1 (by kernel_rfl))
    (try dsimp only at t22)
    refine go_in (wanted_all rfl) ?_
    intro K hk
    clear haft hK hLi
    go_simp
    exact hk.out gg x (fun _ _ => rfl) (hS.go rfl)
  · intro i hi; exact Or.inl (fun _ _ _ => rfl)
  refine' LinAll.cons _ ?_ ?_ ?_
  rotate_left 1
  · intro gg L a x hLi haft hS hK
    have t23 := hK.new 2 0 _ 23 _ rfl rfl rfl (by kernel_rfl) (waits haft 2 (by kernel_rfl))
    (try dsimp only at t23)
    refine go_in (wanted_all rfl) ?_
    intro K hk
    clear haft hK hLi
    go_simp
    exact hk.out gg x (fun _ _ => rfl) (hS.go rfl)
  · intro i hi; exact Or.inl (fun _ _ _ => rfl)
  refine' LinAll.cons _ ?_ ?_ ?_
  rotate_left 1
  · intro gg L a x hLi haft hS hK
    have t24 := hK.new 3 0 _ 24 _ rfl rfl rfl (by kernel_rfl) (waits haft 3 (by kernel_rfl))
    (try dsimp only at t24)
    have hb4 := hS.low (off_of hS.d3 hLi)
    have d2 : x.cell? ⟨X, 2, none⟩ = some (.slice aa nC ca) := cell_of ((hb4.block X hx1l).trans HX1.out) 2 rfl
    clear hb4
    refine go_in (wanted_all rfl) ?_
    intro K hk
    clear haft hK hLi
    go_simp
    exact hk.out gg x (fun _ _ => rfl) (hS.go rfl)
  · intro i hi; exact Or.inl (fun _ _ _ => rfl)
  refine' LinAll.cons _ ?_ ?_ ?_
  rotate_left 1
  · intro gg L a x hLi haft hS hK
    have t5 := (hK.old 5 (by kernel_rfl)).trans o5
    (try dsimp only at t5)
    refine go_in (wanted_all rfl) ?_
    intro K hk
    clear haft hK hLi
    go_simp
    exact hk.out gg x (fun _ _ => rfl) (hS.go rfl)
  · intro i hi; exact Or.inl (fun _ _ _ => rfl)
  refine LinAll.cons (fun gg => dec C1.length (gg 6)) ?_ ?_ ?_
  · intro gg L a x hLi haft hS hK
    have t26 := hK.new 5 0 _ 26 _ rfl rfl rfl (by kernel_rfl) (waits haft 5 (by kernel_rfl))
    (try dsimp only at t26)
    have hq0 := hS.a0 hLi
    have hLx : Ls x B1 (.slice av m1 cv) us1 C1 := HLS1.out.own (fun k _ _ => by rw [hq0.1])
    have HLX : Hid _ := copyLists_any hLx HNE.out HLN.out
    clear hLx hq0
    refine go_in (wanted_all rfl) ?_
    intro K hk
    clear haft hK
    go_simp
    refine Calls.mono HLX.out ?_
    rintro ev y ⟨v2, us2, rfl, hL2, hb2⟩
    obtain ⟨p, hp⟩ := dec_of hL2.row
    rw [hL2.len] at hp
    subst hp
    have hq := hk.out (updG gg 6 p) y (updG_al (by rfl)) (hS.call hLi hb2 hL2)
    dsimp only at hq
    rw [updG_eq] at hq
    exact hq
  · intro i hi; simp only [List.mem_cons, List.not_mem_nil, or_false] at hi; rcases hi with rfl | rfl; exact Or.inr (by kernel_rfl); exact Or.inl (fun g g' h => by simp only [h 6 (by decide)])
  refine LinAll.cons (fun gg => dec (s.C.length + C1.length) (gg 7)) ?_ ?_ ?_
  · intro gg L a x hLi haft hS hK
    have t25 := hK.new 4 2 _ 25 _ rfl rfl rfl (by kernel_rfl) (waits haft 4 (by kernel_rfl))
    have t27 := hK.new 6 0 _ 27 _ rfl rfl rfl (by kernel_rfl) (waits haft 6 (by kernel_rfl))
    (try dsimp only at t25 t27)
    have hL4 := waits haft 4 (by kernel_rfl)
    have hL6 := waits haft 6 (by kernel_rfl)
    obtain ⟨hb7, us2, hl2⟩ := hS.a1 hL6 hLi
    obtain ⟨p, w3, hap, hAP⟩ := AP.of (ty := 30) hb7 HAL1.out hB1w hl2 (by have := HLN.out; have := HNC.out; omega) HX1.out (fun q => HCA.out X q rfl)
    refine go_in (wanted_all rfl) ?_
    intro K hk
    refine wp_app_eq _ (.tmp 25) (.tmp 27) 30 rfl _ _ _ w3 (eval_tmp t25) (eval_tmp t27) hap ?_
    have hq := hk.out (updG gg 7 p) w3 (updG_al (by rfl)) (hS.app hLi hL4 hL6 hAP)
    dsimp only at hq
    rw [updG_eq] at hq
    exact hq
  · intro i hi; simp only [List.mem_cons, List.not_mem_nil, or_false] at hi; rcases hi with rfl | rfl; exact Or.inl (fun g g' h => by simp only [h 7 (by decide)]); exact Or.inr (by kernel_rfl)
  refine' LinAll.cons _ ?_ ?_ ?_
  rotate_left 1
  · intro gg L a x hLi haft hS hK
    have t21 := hK.new 0 7 _ 21 _ rfl rfl rfl (by kernel_rfl) (waits haft 0 (by kernel_rfl))
    (try dsimp only at t21)
    refine go_in (wanted_all rfl) ?_
    intro K hk
    clear haft hK hLi
    go_simp
    exact hk.out gg x (fun _ _ => rfl) (hS.go rfl)
  · intro i hi; exact Or.inl (fun _ _ _ => rfl)
  refine' LinAll.cons _ ?_ ?_ ?_
  rotate_left 1
  · intro gg L a x hLi haft hS hK
    have t29 := hK.new 8 0 _ 29 _ rfl rfl rfl (by kernel_rfl) (waits haft 8 (by kernel_rfl))
    (try dsimp only at t29)
    refine go_in (wanted_all rfl) ?_
    intro K hk
    clear haft hK hLi
    go_simp
    exact hk.out gg x (fun _ _ => rfl) (hS.go rfl)
  · intro i hi; exact Or.inl (fun _ _ _ => rfl)
  refine LinAll.cons (fun _ => undef) ?_ ?_ ?_
  · intro gg L a x hLi haft hS hK
    have t28 := hK.new 7 2 _ 28 _ rfl rfl rfl (by kernel_rfl) (waits haft 7 (by kernel_rfl))
    have t30 := hK.new 9 0 _ 30 _ rfl rfl rfl (by kernel_rfl) (waits haft 9 (by kernel_rfl))
    (try dsimp only at t28 t30)
    have hL7 := waits haft 7 (by kernel_rfl)
    have hx3 := (hS.a2 hL7 hLi).hx
    have c3 := cell_of hx3 2 rfl
    have f3 : x.frozen? ⟨X, 2, none⟩ = false := by simp [World.frozen?, hx3]
    have hnew := hS.store hLi hL7
    obtain ⟨da, dc, hde⟩ := dec_sl (s.C.length + C1.length) (gg 7)
    rw [hde] at hnew t28
    refine go_in (wanted_all rfl) ?_
    intro K hk
    clear haft hK hLi hL7 hx3 hde
    go_simp
    exact hk.out gg _ (fun _ _ => rfl) hnew
  · intro i hi; exact Or.inl (fun _ _ _ => rfl)
  refine LinAll.nil fun gg x hS => ?_
  subst ha0
  simp only [Act.put, List.setIfInBounds_toArray, List.set_cons_zero, List.set_cons_succ]
  clear o0 o5
  obtain ⟨w3, hAP, hx4⟩ := hS.a3 rfl
  obtain ⟨va3, hva3⟩ : ∃ y, y = dec (s.C.length + C1.length) (gg 7) := ⟨_, rfl⟩
  rw [← hva3] at hAP hx4
  obtain ⟨us2, w2, hLs3, hg3, hat3, hb2, hus2⟩ := hAP.ex
  have hX3 := hAP.hx
  obtain ⟨w4, hw4⟩ : ∃ y, y = x := ⟨_, rfl⟩
  rw [← hw4] at hx4 ⊢
  have hs2 : w1.heap.size ≤ w2.heap.size := hb2.size
  have hs3 : w2.heap.size ≤ w3.heap.size := hg3.size
  have hs4 : w4.heap.size = w3.heap.size := by rw [hx4]; simp
  have ho4 : ∀ q, q ≠ X → w4.heap[q]? = w3.heap[q]? := fun q hq => by rw [hx4]; exact heap_setCell_other _ _ _ _ hq
  have hXw4 : w4.heap[X]? = some (.cells #[.pointer (some ⟨g, 0, none⟩), .pointer (some ⟨e, 0, none⟩), va3, vl, vr, .bool true] 33 (0, 0)) := by
    rw [hx4]; exact heap_setCell_same w3 X 2 _ _ va3 hX3
  have hval : ∀ k, (Value.slice aa nC ca).ownBlock = some k → k < w.heap.size ∧ col k = 5 ∧ B ≤ k := fun k hk => by
    have hk' : (Value.slice aa s.C.length ca).ownBlock = some k := by rw [← HNC.out]; exact hk
    exact ⟨(H.out.al.row.lt k hk').2, H.out.ca k hk', (H.out.al.row.lt k hk').1⟩
  have hvll : ∀ k, vl.ownBlock = some k → k < w.heap.size ∧ col k = 6 ∧ B ≤ k := fun k hk => ⟨(H.out.li.lt k hk).2, H.out.cl k hk, (H.out.li.lt k hk).1⟩
  have hvrl : ∀ k, vr.ownBlock = some k → k < w.heap.size ∧ col k = 7 ∧ B ≤ k := fun k hk => ⟨(H.out.ro.lt k hk).2, H.out.cr k hk, (H.out.ro.lt k hk).1⟩
  have hXc := H.out.cX
  have K14 : ∀ q, q < w1.heap.size → q ≠ X → (q < w.heap.size → col q ≠ 5) → w4.heap[q]? = w1.heap[q]? := fun q hq hn hc => by
    rw [ho4 q hn, hg3.block q (by omega) (fun e1 => by have := hval q e1.symm; exact hc this.1 this.2.1)]
    exact hb2.block q hq
  have hva3l : ∀ k, va3.ownBlock = some k → (k < w.heap.size ∧ col k = 5 ∧ B ≤ k) ∨ (w1.heap.size ≤ k ∧ k < w4.heap.size) := fun k hk => by
    rcases hat3 with q | q
    · exact Or.inl (hval k (q.symm.trans hk))
    · have q2 := (hLs3.row.lt k hk).2
      rw [hk] at q
      injection q with q
      exact Or.inr ⟨by omega, by omega⟩
  have husl : ∀ u ∈ us ++ us2, ∀ k, u.ownBlock = some k → (k < w.heap.size ∧ col k = 5) ∨ (w1.heap.size ≤ k ∧ k < w4.heap.size) := fun u hu k hk => by
    rcases List.mem_append.1 hu with hu | hu
    · exact Or.inl ⟨H.out.ult u hu k hk, H.out.cu u hu k hk⟩
    · have := hus2 u hu k hk
      exact Or.inr ⟨by omega, by omega⟩
  have hLs4 : Ls w4 B va3 (us ++ us2) (s.C ++ C1) := hLs3.own (fun k hk q => ho4 k (fun e1 => by
    rcases q with q | ⟨u, hu, q⟩
    · rcases hva3l k q with r | r
      · rw [e1] at r; omega
      · omega
    · rcases husl u hu k q with r | r
      · rw [e1] at r; omega
      · omega))
  have hli4 : Is' w4 B vl (nats s.Lt) := row_own H.out.li (fun k hk => by
    have r := hvll k hk
    exact (K14 k (by omega) (fun e1 => by rw [e1] at r; omega) (fun _ => by omega)).trans (HK1.out k r.1 (by omega)))
  have hro4 : Is' w4 B vr s.Rs := row_own H.out.ro (fun k hk => by
    have r := hvrl k hk
    exact (K14 k (by omega) (fun e1 => by rw [e1] at r; omega) (fun _ => by omega)).trans (HK1.out k r.1 (by omega)))
  have hRsl : s.Rs.length = s.Lt.length := by rw [HP.out.rt, List.length_map]
  obtain ⟨al, cl, hvl, -⟩ := hli4.slice
  obtain ⟨ar, cr, hvr, -⟩ := hro4.slice
  obtain ⟨lt1, hlt1⟩ : ∃ y, y = nats s.Lt := ⟨_, rfl⟩
  obtain ⟨rs1, hrs1⟩ : ∃ y, y = s.Rs := ⟨_, rfl⟩
  have HLT1 : Hid _ := hlt1
  have HRS1 : Hid _ := hrs1
  have hltl : lt1.length ≤ 50000 := by rw [hlt1, nats_len]; exact hLt
  have hrsl : rs1.length ≤ 50000 := by rw [hrs1, hRsl]; exact hLt
  rw [← hlt1] at hli4 hvl
  rw [← hrs1] at hro4 hvr
  obtain ⟨nl, hnl⟩ : ∃ y, y = lt1.length := ⟨_, rfl⟩
  obtain ⟨nr, hnr⟩ : ∃ y, y = rs1.length := ⟨_, rfl⟩
  rw [← hnl] at hvl
  rw [← hnr] at hvr
  subst hvl
  subst hvr
  have HLI : Hid (Is' w4 B (.slice al nl cl) lt1) := hli4
  have HRO : Hid (Is' w4 B (.slice ar nr cr) rs1) := hro4
  have HVV : Hid ((∀ b, (Value.slice al nl cl).ownBlock = some b → (Value.slice ar nr cr).ownBlock ≠ some b) ∧ (∀ b, (Value.slice al nl cl).ownBlock = some b → b < w4.heap.size ∧ b ≠ X) ∧ (∀ b, (Value.slice ar nr cr).ownBlock = some b → b < w4.heap.size ∧ b ≠ X)) := by
    refine ⟨fun b q q2 => ?_, fun b q => ?_, fun b q => ?_⟩
    · have := (hvll b q).2.1
      have := (hvrl b q2).2.1
      omega
    · have r := hvll b q
      exact ⟨by omega, fun e1 => by rw [e1] at r; omega⟩
    · have r := hvrl b q
      exact ⟨by omega, fun e1 => by rw [e1] at r; omega⟩
  have HX4 : Hid _ := hXw4
  have hX4 : X < w4.heap.size := by omega
  have hB4 : B ≤ w4.heap.size := by omega
  have HS4 : Hid (w1.heap.size ≤ w4.heap.size ∧ Ls w4 B va3 (us ++ us2) (s.C ++ C1) ∧ (∀ q, q < w1.heap.size → q ≠ X → (q < w.heap.size → col q ≠ 5) → w4.heap[q]? = w1.heap[q]?) ∧ (∀ k, va3.ownBlock = some k → (k < w.heap.size ∧ col k = 5 ∧ B ≤ k) ∨ (w1.heap.size ≤ k ∧ k < w4.heap.size)) ∧ (∀ u ∈ us ++ us2, ∀ k, u.ownBlock = some k → (k < w.heap.size ∧ col k = 5) ∨ (w1.heap.size ≤ k ∧ k < w4.heap.size)) ∧ w4.os = w1.os ∧ w4.tape = w1.tape ∧ w4.output = w1.output ∧ (∀ q, q < B → w4.heap[q]? = w1.heap[q]?)) := ⟨by omega, hLs4, K14, hva3l, husl, by rw [hx4]; exact hg3.os.trans hb2.os, by rw [hx4]; exact hg3.tape.trans hb2.tape, by rw [hx4]; exact hg3.output.trans hb2.output, fun q hq => by
    rw [ho4 q (by omega), hg3.block q (by omega) (fun e1 => by have := hval q e1.symm; omega)]
    exact hb2.block q (by omega)⟩
  have HVL : Hid ((∀ k, (Value.slice al nl cl).ownBlock = some k → k < w.heap.size ∧ col k = 6 ∧ B ≤ k) ∧ (∀ k, (Value.slice ar nr cr).ownBlock = some k → k < w.heap.size ∧ col k = 7 ∧ B ≤ k)) := ⟨hvll, hvrl⟩
  obtain ⟨b3, hb3⟩ : ∃ a c, va3 = .slice a (s.C ++ C1).length c := by
    obtain ⟨a, c, q, -⟩ := hLs4.sl
    exact ⟨a, c, q⟩
  clear hS hAP hva3 hw4 x hLs3 hg3 hat3 hb2 hus2 hX3 hx4 hs2 hs3 hs4 ho4 hXw4 hval hvll hvrl hXc K14 hva3l husl hLs4 hli4 hro4 hRsl hlt1 hrs1 hnl hnr hb3 d2 w2 w3
  go_wp2_with fail
  refine wp_named fun a0 ha0 => ?_
  have o0 := old_at ha0 (t := 0) rfl
  have o1 := old_at ha0 (t := 1) rfl
  have o4 := old_at ha0 (t := 4) rfl
  refine wp_region_lin (S := DSt w4 B X 33 (.pointer (some ⟨g, 0, none⟩)) (.pointer (some ⟨e, 0, none⟩)) va3 (.bool true) (.slice al nl cl) (.slice ar nr cr) lt1 rs1 (l : Int) rr) [7, 8, 14, 15] (fun _ => 0) (by kernel_rfl) (by kernel_rfl) (by rw [← ha0]; kernel_rfl) (DSt.start (x := w4.drew) rfl rfl rfl rfl HX4.out) ?_
  refine' LinAll.cons _ ?_ ?_ ?_
  rotate_left 1
  · intro gg L a x hLi haft hS hK
    have t0 := (hK.old 0 (by kernel_rfl)).trans o0
    (try dsimp only at t0)
    refine go_in (wanted_all rfl) ?_
    intro K hk
    clear haft hK hLi
    go_simp
    exact hk.out gg x (fun _ _ => rfl) (hS.go rfl)
  · intro i hi; exact Or.inl (fun _ _ _ => rfl)
  refine' LinAll.cons _ ?_ ?_ ?_
  rotate_left 1
  · intro gg L a x hLi haft hS hK
    have t0 := (hK.old 0 (by kernel_rfl)).trans o0
    (try dsimp only at t0)
    refine go_in (wanted_all rfl) ?_
    intro K hk
    clear haft hK hLi
    go_simp
    exact hk.out gg x (fun _ _ => rfl) (hS.go rfl)
  · intro i hi; exact Or.inl (fun _ _ _ => rfl)
  refine' LinAll.cons _ ?_ ?_ ?_
  rotate_left 1
  · intro gg L a x hLi haft hS hK
    have t0 := (hK.old 0 (by kernel_rfl)).trans o0
    (try dsimp only at t0)
    refine go_in (wanted_all rfl) ?_
    intro K hk
    clear haft hK hLi
    go_simp
    exact hk.out gg x (fun _ _ => rfl) (hS.go rfl)
  · intro i hi; exact Or.inl (fun _ _ _ => rfl)
  refine' LinAll.cons _ ?_ ?_ ?_
  rotate_left 1
  · intro gg L a x hLi haft hS hK
    have t33 := hK.new 2 0 _ 33 _ rfl rfl rfl (by kernel_rfl) (waits haft 2 (by kernel_rfl))
    (try dsimp only at t33)
    refine go_in (wanted_all rfl) ?_
    intro K hk
    clear haft hK hLi
    go_simp
    exact hk.out gg x (fun _ _ => rfl) (hS.go rfl)
  · intro i hi; exact Or.inl (fun _ _ _ => rfl)
  refine' LinAll.cons _ ?_ ?_ ?_
  rotate_left 1
  · intro gg L a x hLi haft hS hK
    have t34 := hK.new 3 0 _ 34 _ rfl rfl rfl (by kernel_rfl) (waits haft 3 (by kernel_rfl))
    (try dsimp only at t34)
    refine go_in (wanted_all rfl) ?_
    intro K hk
    clear haft hK hLi
    go_simp
    exact hk.out gg x (fun _ _ => rfl) (hS.go rfl)
  · intro i hi; exact Or.inl (fun _ _ _ => rfl)
  refine' LinAll.cons _ ?_ ?_ ?_
  rotate_left 1
  · intro gg L a x hLi haft hS hK
    have t35 := hK.new 4 0 _ 35 _ rfl rfl rfl (by kernel_rfl) (waits haft 4 (by kernel_rfl))
    (try dsimp only at t35)
    have q18 : L 18 = false := off_of hS.d1 (off_of hS.e1 hLi)
    have c3 : x.cell? ⟨X, 3, none⟩ = some (.slice al nl cl) := by
      have h2 := cell_of hS.rs 3 rfl
      rw [q18] at h2
      exact h2
    clear q18
    refine go_in (wanted_all rfl) ?_
    intro K hk
    clear haft hK hLi
    go_simp
    exact hk.out gg x (fun _ _ => rfl) (hS.go rfl)
  · intro i hi; exact Or.inl (fun _ _ _ => rfl)
  refine' LinAll.cons _ ?_ ?_ ?_
  rotate_left 1
  · intro gg L a x hLi haft hS hK
    have t1 := (hK.old 1 (by kernel_rfl)).trans o1
    (try dsimp only at t1)
    refine go_in (wanted_all rfl) ?_
    intro K hk
    clear haft hK hLi
    go_simp
    exact hk.out gg x (fun _ _ => rfl) (hS.go rfl)
  · intro i hi; exact Or.inl (fun _ _ _ => rfl)
  refine LinAll.cons (fun gg => .slice (some ⟨gg 7, 0, none⟩) 1 1) ?_ ?_ ?_
  · intro gg L a x hLi haft hS hK
    have t37 := hK.new 6 0 _ 37 _ rfl rfl rfl (by kernel_rfl) (waits haft 6 (by kernel_rfl))
    (try dsimp only at t37)
    refine go_in (wanted_all rfl) ?_
    intro K hk
    clear haft hK
    go_simp
    have hq := hk.out (updG gg 7 x.heap.size) _ (updG_al (by rfl)) (hS.built1 hLi)
    dsimp only at hq
    rw [updG_eq] at hq
    exact hq
  · intro i hi; simp only [List.mem_cons, List.not_mem_nil, or_false] at hi; rcases hi with rfl | rfl | rfl | rfl; exact Or.inr (by kernel_rfl); exact Or.inl (fun g g' h => by simp only [h 7 (by decide)]); exact Or.inl (fun g g' h => by simp only [h 7 (by decide)]); exact Or.inl (fun g g' h => by simp only [h 7 (by decide)])
  refine LinAll.cons (fun gg => sl (lt1.length + 1) (gg 8)) ?_ ?_ ?_
  · intro gg L a x hLi haft hS hK
    have t36 := hK.new 5 2 _ 36 _ rfl rfl rfl (by kernel_rfl) (waits haft 5 (by kernel_rfl))
    have t38 := hK.new 7 0 _ 38 _ rfl rfl rfl (by kernel_rfl) (waits haft 7 (by kernel_rfl))
    (try dsimp only at t36 t38)
    have hLl := waits haft 5 (by kernel_rfl)
    have hLb := waits haft 7 (by kernel_rfl)
    have hrow := row_own HLI.out (fun k hk => hS.kp k (HLI.out.lt k hk).2 (fun e => by rw [hLi] at e; cases e) (fun _ q => HVV.out.1 k hk q.symm) (HVV.out.2.1 k hk).2)
    have hsb := hS.s1.sb hLb hLi
    refine go_in (wanted_all rfl) ?_
    intro K hk
    refine wp_append_at _ (.tmp 36) (.tmp 38) 31 rfl B 3 ti _ 1 8 underInts HI.out.1 HI.out.2.1 HI.out.2.2.1 HI.out.2.2.2 rfl (by decide) _ lt1.length _ (eval_tmp t36) hrow ⟨gg 7, 0, none⟩ 1 1 [.int .i64 (l : Int)] (eval_tmp t38) rfl (fun j u hj => by
      have e : (⟨gg 7, 0, none⟩ : Addr).add j = ⟨gg 7, j, none⟩ := by simp [Addr.add]; try (intro hq; exact hq.symm)
      rw [e]; exact cell_of hsb.1 j (by simpa using hj)) (ones [(l : Int)]) (by unfold maxLen; omega) (by omega) (by have := hS.siz; omega) ?_
    intro v' y hown hgrow hat
    obtain ⟨p, rfl⟩ := sl_own hown (by omega)
    have hown' : Is' y B (sl (lt1.length + 1) p) (lt1 ++ [(l : Int)]) := by unfold Is'; rw [List.length_append, List.map_append]; exact hown
    have hq := hk.out (updG gg 8 p) y (updG_al (by rfl)) (hS.app1 hLi hLl hLb HVV.out.1 HVV.out.2.1 HVV.out.2.2 hX4 hgrow hown' hat)
    dsimp only at hq
    rw [updG_eq] at hq
    exact hq
  · intro i hi; simp only [List.mem_cons, List.not_mem_nil, or_false] at hi; rcases hi with rfl | rfl | rfl | rfl; exact Or.inl (fun g g' h => by simp only [h 8 (by decide)]); exact Or.inr (by kernel_rfl); exact Or.inl (fun g g' h => by simp only [h 8 (by decide)]); exact Or.inl (fun g g' h => by simp only [h 8 (by decide)])
  refine' LinAll.cons _ ?_ ?_ ?_
  rotate_left 1
  · intro gg L a x hLi haft hS hK
    have t0 := (hK.old 0 (by kernel_rfl)).trans o0
    (try dsimp only at t0)
    refine go_in (wanted_all rfl) ?_
    intro K hk
    clear haft hK hLi
    go_simp
    exact hk.out gg x (fun _ _ => rfl) (hS.go rfl)
  · intro i hi; exact Or.inl (fun _ _ _ => rfl)
  refine' LinAll.cons _ ?_ ?_ ?_
  rotate_left 1
  · intro gg L a x hLi haft hS hK
    have t40 := hK.new 9 0 _ 40 _ rfl rfl rfl (by kernel_rfl) (waits haft 9 (by kernel_rfl))
    (try dsimp only at t40)
    refine go_in (wanted_all rfl) ?_
    intro K hk
    clear haft hK hLi
    go_simp
    exact hk.out gg x (fun _ _ => rfl) (hS.go rfl)
  · intro i hi; exact Or.inl (fun _ _ _ => rfl)
  refine' LinAll.cons _ ?_ ?_ ?_
  rotate_left 1
  · intro gg L a x hLi haft hS hK
    have t41 := hK.new 10 0 _ 41 _ rfl rfl rfl (by kernel_rfl) (waits haft 10 (by kernel_rfl))
    (try dsimp only at t41)
    refine go_in (wanted_all rfl) ?_
    intro K hk
    clear haft hK hLi
    go_simp
    exact hk.out gg x (fun _ _ => rfl) (hS.go rfl)
  · intro i hi; exact Or.inl (fun _ _ _ => rfl)
  refine' LinAll.cons _ ?_ ?_ ?_
  rotate_left 1
  · intro gg L a x hLi haft hS hK
    have t42 := hK.new 11 0 _ 42 _ rfl rfl rfl (by kernel_rfl) (waits haft 11 (by kernel_rfl))
    (try dsimp only at t42)
    have q18 : L 21 = false := off_of hS.d2 (off_of hS.e2 hLi)
    have c3 : x.cell? ⟨X, 4, none⟩ = some (.slice ar nr cr) := by
      have h2 := cell_of hS.rs 4 rfl
      rw [q18] at h2
      exact h2
    clear q18
    refine go_in (wanted_all rfl) ?_
    intro K hk
    clear haft hK hLi
    go_simp
    exact hk.out gg x (fun _ _ => rfl) (hS.go rfl)
  · intro i hi; exact Or.inl (fun _ _ _ => rfl)
  refine' LinAll.cons _ ?_ ?_ ?_
  rotate_left 1
  · intro gg L a x hLi haft hS hK
    have t4 := (hK.old 4 (by kernel_rfl)).trans o4
    (try dsimp only at t4)
    refine go_in (wanted_all rfl) ?_
    intro K hk
    clear haft hK hLi
    go_simp
    exact hk.out gg x (fun _ _ => rfl) (hS.go rfl)
  · intro i hi; exact Or.inl (fun _ _ _ => rfl)
  refine LinAll.cons (fun gg => .slice (some ⟨gg 14, 0, none⟩) 1 1) ?_ ?_ ?_
  · intro gg L a x hLi haft hS hK
    have t44 := hK.new 13 0 _ 44 _ rfl rfl rfl (by kernel_rfl) (waits haft 13 (by kernel_rfl))
    (try dsimp only at t44)
    refine go_in (wanted_all rfl) ?_
    intro K hk
    clear haft hK
    go_simp
    have hq := hk.out (updG gg 14 x.heap.size) _ (updG_al (by rfl)) (hS.built2 hLi)
    dsimp only at hq
    rw [updG_eq] at hq
    exact hq
  · intro i hi; simp only [List.mem_cons, List.not_mem_nil, or_false] at hi; rcases hi with rfl | rfl | rfl | rfl; exact Or.inl (fun g g' h => by simp only [h 14 (by decide)]); exact Or.inl (fun g g' h => by simp only [h 14 (by decide)]); exact Or.inr (by kernel_rfl); exact Or.inl (fun g g' h => by simp only [h 14 (by decide)])
  refine LinAll.cons (fun gg => sl (rs1.length + 1) (gg 15)) ?_ ?_ ?_
  · intro gg L a x hLi haft hS hK
    have t43 := hK.new 12 2 _ 43 _ rfl rfl rfl (by kernel_rfl) (waits haft 12 (by kernel_rfl))
    have t45 := hK.new 14 0 _ 45 _ rfl rfl rfl (by kernel_rfl) (waits haft 14 (by kernel_rfl))
    (try dsimp only at t43 t45)
    have hLl := waits haft 12 (by kernel_rfl)
    have hLb := waits haft 14 (by kernel_rfl)
    have hrow := row_own HRO.out (fun k hk => hS.kp k (HRO.out.lt k hk).2 (fun _ q => HVV.out.1 k q.symm hk) (fun e => by rw [hLi] at e; cases e) (HVV.out.2.2 k hk).2)
    have hsb := hS.s2.sb hLb hLi
    refine go_in (wanted_all rfl) ?_
    intro K hk
    refine wp_append_at _ (.tmp 43) (.tmp 45) 31 rfl B 3 ti _ 1 8 underInts HI.out.1 HI.out.2.1 HI.out.2.2.1 HI.out.2.2.2 rfl (by decide) _ rs1.length _ (eval_tmp t43) hrow ⟨gg 14, 0, none⟩ 1 1 [.int .i64 rr] (eval_tmp t45) rfl (fun j u hj => by
      have e : (⟨gg 14, 0, none⟩ : Addr).add j = ⟨gg 14, j, none⟩ := by simp [Addr.add]; try (intro hq; exact hq.symm)
      rw [e]; exact cell_of hsb.1 j (by simpa using hj)) (ones [rr]) (by unfold maxLen; omega) (by omega) (by have := hS.siz; omega) ?_
    intro v' y hown hgrow hat
    obtain ⟨p, rfl⟩ := sl_own hown (by omega)
    have hown' : Is' y B (sl (rs1.length + 1) p) (rs1 ++ [rr]) := by unfold Is'; rw [List.length_append, List.map_append]; exact hown
    have hq := hk.out (updG gg 15 p) y (updG_al (by rfl)) (hS.app2 hLi hLl hLb HVV.out.1 HVV.out.2.1 HVV.out.2.2 hX4 hgrow hown' hat)
    dsimp only at hq
    rw [updG_eq] at hq
    exact hq
  · intro i hi; simp only [List.mem_cons, List.not_mem_nil, or_false] at hi; rcases hi with rfl | rfl | rfl | rfl; exact Or.inl (fun g g' h => by simp only [h 15 (by decide)]); exact Or.inl (fun g g' h => by simp only [h 15 (by decide)]); exact Or.inl (fun g g' h => by simp only [h 15 (by decide)]); exact Or.inr (by kernel_rfl)
  refine' LinAll.cons _ ?_ ?_ ?_
  rotate_left 1
  · intro gg L a x hLi haft hS hK
    have t31 := hK.new 0 15 _ 31 _ rfl rfl rfl (by kernel_rfl) (waits haft 0 (by kernel_rfl))
    (try dsimp only at t31)
    refine go_in (wanted_all rfl) ?_
    intro K hk
    clear haft hK hLi
    go_simp
    exact hk.out gg x (fun _ _ => rfl) (hS.go rfl)
  · intro i hi; exact Or.inl (fun _ _ _ => rfl)
  refine' LinAll.cons _ ?_ ?_ ?_
  rotate_left 1
  · intro gg L a x hLi haft hS hK
    have t47 := hK.new 16 0 _ 47 _ rfl rfl rfl (by kernel_rfl) (waits haft 16 (by kernel_rfl))
    (try dsimp only at t47)
    refine go_in (wanted_all rfl) ?_
    intro K hk
    clear haft hK hLi
    go_simp
    exact hk.out gg x (fun _ _ => rfl) (hS.go rfl)
  · intro i hi; exact Or.inl (fun _ _ _ => rfl)
  refine LinAll.cons (fun _ => undef) ?_ ?_ ?_
  · intro gg L a x hLi haft hS hK
    have t39 := hK.new 8 9 _ 39 _ rfl rfl rfl (by kernel_rfl) (waits haft 8 (by kernel_rfl))
    have t48 := hK.new 17 0 _ 48 _ rfl rfl rfl (by kernel_rfl) (waits haft 17 (by kernel_rfl))
    (try dsimp only at t39 t48)
    have hLa := waits haft 8 (by kernel_rfl)
    obtain ⟨u3, c3⟩ : ∃ u, x.cell? ⟨X, 3, none⟩ = some u := ⟨_, cell_of hS.rs 3 rfl⟩
    have f3 : x.frozen? ⟨X, 3, none⟩ = false := by simp [World.frozen?, hS.rs]
    have hnew := hS.store1 hLa HVV.out.2.1 HVV.out.2.2 hX4
    unfold sl at t39
    refine go_in (wanted_all rfl) ?_
    intro K hk
    clear haft hK hLi hLa
    go_simp
    exact hk.out gg _ (fun _ _ => rfl) hnew
  · intro i hi; exact Or.inl (fun _ _ _ => rfl)
  refine' LinAll.cons _ ?_ ?_ ?_
  rotate_left 1
  · intro gg L a x hLi haft hS hK
    have t32 := hK.new 1 17 _ 32 _ rfl rfl rfl (by kernel_rfl) (waits haft 1 (by kernel_rfl))
    (try dsimp only at t32)
    refine go_in (wanted_all rfl) ?_
    intro K hk
    clear haft hK hLi
    go_simp
    exact hk.out gg x (fun _ _ => rfl) (hS.go rfl)
  · intro i hi; exact Or.inl (fun _ _ _ => rfl)
  refine' LinAll.cons _ ?_ ?_ ?_
  rotate_left 1
  · intro gg L a x hLi haft hS hK
    have t49 := hK.new 19 0 _ 49 _ rfl rfl rfl (by kernel_rfl) (waits haft 19 (by kernel_rfl))
    (try dsimp only at t49)
    refine go_in (wanted_all rfl) ?_
    intro K hk
    clear haft hK hLi
    go_simp
    exact hk.out gg x (fun _ _ => rfl) (hS.go rfl)
  · intro i hi; exact Or.inl (fun _ _ _ => rfl)
  refine LinAll.cons (fun _ => undef) ?_ ?_ ?_
  · intro gg L a x hLi haft hS hK
    have t46 := hK.new 15 5 _ 46 _ rfl rfl rfl (by kernel_rfl) (waits haft 15 (by kernel_rfl))
    have t50 := hK.new 20 0 _ 50 _ rfl rfl rfl (by kernel_rfl) (waits haft 20 (by kernel_rfl))
    (try dsimp only at t46 t50)
    have hLa := waits haft 15 (by kernel_rfl)
    obtain ⟨u3, c3⟩ : ∃ u, x.cell? ⟨X, 4, none⟩ = some u := ⟨_, cell_of hS.rs 4 rfl⟩
    have f3 : x.frozen? ⟨X, 4, none⟩ = false := by simp [World.frozen?, hS.rs]
    have hnew := hS.store2 hLa HVV.out.2.1 HVV.out.2.2 hX4
    unfold sl at t46
    refine go_in (wanted_all rfl) ?_
    intro K hk
    clear haft hK hLi hLa
    go_simp
    exact hk.out gg _ (fun _ _ => rfl) hnew
  · intro i hi; exact Or.inl (fun _ _ _ => rfl)
  refine LinAll.nil fun gg x hS => ?_
  subst ha0
  simp only [Act.put, List.setIfInBounds_toArray, List.set_cons_zero, List.set_cons_succ]
  clear o0 o1 o4
  have HS : Hid _ := hS
  have d1 : x.cell? ⟨X, 1, none⟩ = some (.pointer (some ⟨e, 0, none⟩)) := cell_of hS.rs 1 rfl
  have hs5 := hS.siz
  have K15 : ∀ q, q < w1.heap.size → q ≠ X → (q < w.heap.size → col q ≤ 3 ∨ 8 ≤ col q) → x.heap[q]? = w1.heap[q]? := fun q hq hn hc => by
    rw [hS.kp q (by have := HS4.out.1; omega) (fun _ e1 => by have := HVL.out.1 q e1.symm; have := hc this.1; omega) (fun _ e1 => by have := HVL.out.2 q e1.symm; have := hc this.1; omega) hn]
    exact HS4.out.2.2.1 q hq hn (fun h5 => by have := hc h5; omega)
  have hXc := H.out.cX
  have hel := H.out.en.lt
  have hmvl := H.out.en.vs.lt
  have hmpl := H.out.en.ps.lt
  have hE5 : En x e g (s.vars + (NL.length : Int)) mv mp V1 (polF (s.T ++ L)) := HE1.out.kept (fun b hb => by
    have q1 := H.out.ce.1
    have q2 := H.out.cv.1
    have q3 := H.out.cp.1
    rcases hb with rfl | rfl | rfl
    · exact K15 _ (by omega) (fun q => by rw [q] at q1; omega) (fun _ => by omega)
    · exact K15 _ (by omega) (fun q => by rw [q] at q2; omega) (fun _ => by omega)
    · exact K15 _ (by omega) (fun q => by rw [q] at q3; omega) (fun _ => by omega))
  have hG5 : Gr x F g mo s.ks := HG1.out.kept (fun k hk hf => by
    have q1 := H.out.cF k hf
    exact K15 k hk (fun q => by rw [q] at q1; omega) (fun _ => by omega))
  have HK15 : Hid _ := K15
  have HRT2 : Hid _ := root_any hE5 hG5 (fun k hk => ⟨by have := (HF.out k hk).1; have := HS4.out.1; omega, (HF.out k hk).2⟩) hl (by omega) (by omega) (by omega) (fun n => by have := hrng2 n; omega)
  obtain ⟨w5, hw5⟩ : ∃ y, y = x := ⟨_, rfl⟩
  rw [← hw5] at HS d1 hs5 HK15 HRT2 ⊢
  clear hS K15 hE5 hG5 hw5 x
  go_wp2_with fail
  refine Calls.mono HRT2.out ?_
  rintro ev w6 ⟨L2, v6, rfl, hU2, hE6, hG6, ⟨B6, b6, us6, hGt6, hB6⟩, hTn6⟩
  obtain rfl : L2 = [] := uo_nil HP.out.inv hstep.out hU2
  have hcm : Lib.compact (nats (nmL V1 [])) = [] := rfl
  rw [hcm] at hE6 hGt6 ⊢
  have hE6' : En w6 e g (s.vars + (NL.length : Int)) mv mp V1 (polF (s.T ++ L)) := by
    rw [List.append_nil] at hE6
    have q : s.vars + (NL.length : Int) + (([] : List Int).length : Int) = s.vars + (NL.length : Int) := by simp
    rw [q] at hE6
    exact hE6
  have hv6 : ∃ a c, v6 = .slice a 0 c := by
    have hl0 : us6.length = 0 := hGt6.len
    rcases hGt6.row.2 with ⟨e1, h0⟩ | ⟨g', cap, cur, e1, -⟩
    · exact ⟨_, _, e1⟩
    · rw [hl0] at e1; exact ⟨_, _, e1⟩
  obtain ⟨a6, c6, rfl⟩ := hv6
  have hlit : lit (asg V1 (s.vars + (NL.length : Int)) []) l = rr := HRR.out.symm
  rw [hlit]
  have hX5 := HS.out.rs
  have hX6 : w6.heap[X]? = w5.heap[X]? := hTn6.block X (by omega) (fun hh => by
    have q1 := H.out.ce.1
    have q2 := H.out.cv.1
    have q3 := H.out.cp.1
    have q4 := hXc.1
    rcases hh with hh | hh | hh | hh
    · rw [hh] at q4; omega
    · rw [hh] at q4; omega
    · rw [hh] at q4; omega
    · omega)
  have HT6 : Hid _ := hTn6
  have HE6 : Hid _ := hE6'
  have HG6 : Hid (Gr w6 F g mo s.ks) := hG6
  have d5 : w6.cell? ⟨X, 5, none⟩ = some (.bool true) := cell_of (hX6.trans hX5) 5 rfl
  have f5 : w6.frozen? ⟨X, 5, none⟩ = false := by simp [World.frozen?, hX6, hX5]
  have hs6 := hTn6.size
  have hx6l : X < w6.heap.size := by omega
  have HX6 : Hid _ := hX6.trans hX5
  have hr0' : (rr != 0) = true := by simp [hr0]
  clear hU2 hE6 hG6 hGt6 hTn6 hE6' hcm hlit hX5 hX6 HRT2 hstep d1
  go_wp2_with fail
  obtain ⟨w7, hw7⟩ : ∃ y, y = w6.setCell ⟨X, 5, none⟩ (.bool true) := ⟨_, rfl⟩
  rw [← hw7]
  have hs7 : w7.heap.size = w6.heap.size := by rw [hw7]; simp
  have ho7 : ∀ q, q ≠ X → w7.heap[q]? = w6.heap[q]? := fun q hq => by rw [hw7]; exact heap_setCell_other _ _ _ _ hq
  obtain ⟨vl7, hvl7⟩ : ∃ y, y = sl (lt1.length + 1) (gg 8) := ⟨_, rfl⟩
  obtain ⟨vr7, hvr7⟩ : ∃ y, y = sl (rs1.length + 1) (gg 15) := ⟨_, rfl⟩
  have hX7 : w7.heap[X]? = some (.cells #[.pointer (some ⟨g, 0, none⟩), .pointer (some ⟨e, 0, none⟩), va3, vl7, vr7, .bool true] 33 (0, 0)) := by
    rw [hw7, hvl7, hvr7]; exact heap_setCell_same w6 X 5 _ _ (.bool true) HX6.out
  have hcol : Hid (col e = 1 ∧ col mv = 2 ∧ col mp = 3 ∧ col X = 4) := ⟨H.out.ce.1, H.out.cv.1, H.out.cp.1, H.out.cX.1⟩
  have hs4 := HS4.out.1
  -- what is neither the run's nor the encoder's
  have K57 : ∀ q, q < w5.heap.size → (q < w.heap.size → 5 ≤ col q) → w7.heap[q]? = w5.heap[q]? := fun q hq hc => by
    obtain ⟨q1, q2, q3, q4⟩ := hcol.out
    have hqX : q ≠ X := fun e1 => by have := hc (by omega); rw [e1] at this; omega
    rw [ho7 q hqX]
    refine HT6.out.block q hq (fun hh => ?_)
    rcases hh with hh | hh | hh | hh
    · have := hc (by omega); rw [hh] at this; omega
    · have := hc (by omega); rw [hh] at this; omega
    · have := hc (by omega); rw [hh] at this; omega
    · omega
  have K47 : ∀ q, q < w4.heap.size → (q < w.heap.size → col q = 5 ∨ 8 ≤ col q) → w7.heap[q]? = w4.heap[q]? := fun q hq hc => by
    obtain ⟨q1, q2, q3, q4⟩ := hcol.out
    rw [K57 q (by omega) (fun h5 => by have := hc h5; omega)]
    exact HS.out.kp q hq (fun _ e1 => by have := HVL.out.1 q e1.symm; have := hc this.1; omega) (fun _ e1 => by have := HVL.out.2 q e1.symm; have := hc this.1; omega) (fun e1 => by have := hc (by omega); rw [e1] at this; omega)
  obtain ⟨hra1, hrb1⟩ := HS.out.s1.ra rfl
  obtain ⟨hra2, hrb2⟩ := HS.out.s2.ra rfl
  have hapt := HS.out.ap rfl rfl
  rw [← hvl7] at hra1 hrb1 hapt
  rw [← hvr7] at hra2 hrb2 hapt
  obtain ⟨-, hLs4, K14, hva3l, husl, ho4, ht4, hu4, hB14⟩ := HS4.out
  have hvl7l : ∀ k, vl7.ownBlock = some k → (k < w.heap.size ∧ col k = 6) ∨ w4.heap.size ≤ k := fun k hk => by
    rcases hrb1 with q | ⟨b, q, q2⟩
    · have := HVL.out.1 k (q.symm.trans hk); exact Or.inl ⟨this.1, this.2.1⟩
    · rw [hk] at q; injection q with q; exact Or.inr (by omega)
  have hvr7l : ∀ k, vr7.ownBlock = some k → (k < w.heap.size ∧ col k = 7) ∨ w4.heap.size ≤ k := fun k hk => by
    rcases hrb2 with q | ⟨b, q, q2⟩
    · have := HVL.out.2 k (q.symm.trans hk); exact Or.inl ⟨this.1, this.2.1⟩
    · rw [hk] at q; injection q with q; exact Or.inr (by omega)
  obtain ⟨col', hcol'⟩ : ∃ c : Nat → Nat, c = fun q => if q < w.heap.size then col q else if q < w1.heap.size then 9 else if q < w4.heap.size then 5 else if vl7.ownBlock = some q then 6 else 7 := ⟨_, rfl⟩
  have hc1 : ∀ q, q < w.heap.size → col' q = col q := fun q hq => by rw [hcol']; simp only [hq, if_true]
  have hc9 : ∀ q, w.heap.size ≤ q → q < w1.heap.size → col' q = 9 := fun q hq hq2 => by rw [hcol']; simp only [hq2, if_true, if_neg (show ¬ q < w.heap.size by omega)]
  have hc5 : ∀ q, w1.heap.size ≤ q → q < w4.heap.size → col' q = 5 := fun q hq hq2 => by rw [hcol']; simp only [hq2, if_true, if_neg (show ¬ q < w.heap.size by omega), if_neg (show ¬ q < w1.heap.size by omega)]
  have hc6 : ∀ q, w4.heap.size ≤ q → col' q = if vl7.ownBlock = some q then 6 else 7 := fun q hq => by rw [hcol']; simp only [if_neg (show ¬ q < w.heap.size by omega), if_neg (show ¬ q < w1.heap.size by omega), if_neg (show ¬ q < w4.heap.size by omega)]
  have HR7 : Hid (RnX w7 B X g e mo mv mp F col' va3 vl7 vr7 (us ++ us2) (rtS s L l)) := by
    obtain ⟨q1, q2, q3, q4⟩ := hcol.out
    refine ⟨hX7, ?_, ?_, ?_, ?_, ?_, ?_, ?_, ?_, ?_, ?_, ?_, ?_, ?_, ?_⟩
    · exact HG6.out.kept (fun k _ hf => ho7 k (fun e1 => by have := (H.out.cF k hf).2.1; rw [e1] at this; omega))
    · show En w7 e g (s.vars + ((Lib.compact (nats (nmL s.V L))).length : Int)) mv mp (asg s.V s.vars (Lib.compact (nats (nmL s.V L)))) (polF (s.T ++ L))
      rw [← HNL.out, ← HV1.out]
      refine HE6.out.kept (fun b hb => ho7 b (fun e1 => ?_))
      rcases hb with rfl | rfl | rfl
      · rw [e1] at q1; omega
      · rw [e1] at q2; omega
      · rw [e1] at q3; omega
    · show Ls w7 B va3 (us ++ us2) (s.C ++ clsL s.ks (asg s.V s.vars (Lib.compact (nats (nmL s.V L)))) L)
      rw [← HNL.out, ← HV1.out, ← HC1.out]
      refine hLs4.own (fun k hk hh => K47 k hk (fun h5 => ?_))
      rcases hh with hh | ⟨u, hu, hh⟩
      · rcases hva3l k hh with r | r <;> omega
      · rcases husl u hu k hh with r | r <;> omega
    · show Is' w7 B vl7 (nats (s.Lt ++ [l]))
      rw [nats_app, ← HLT1.out]
      exact row_own hra1 (fun k hk => K57 k (hra1.lt k hk).2 (fun h5 => by rcases hvl7l k hk with r | r <;> omega))
    · show Is' w7 B vr7 (s.Rs ++ [lit (asg s.V s.vars (Lib.compact (nats (nmL s.V L)))) l])
      rw [← HNL.out, ← HV1.out, ← HRR.out, ← HRS1.out]
      exact row_own hra2 (fun k hk => K57 k (hra2.lt k hk).2 (fun h5 => by rcases hvr7l k hk with r | r <;> omega))
    · intro k hf
      have := H.out.cF k hf
      rw [hc1 k this.1]
      exact ⟨by omega, this.2⟩
    · rw [hc1 e (by omega)]; exact H.out.ce
    · rw [hc1 mv (by omega)]; exact H.out.cv
    · rw [hc1 mp (by omega)]; exact H.out.cp
    · rw [hc1 X (by omega)]; exact H.out.cX
    · intro k hk
      rcases hva3l k hk with r | r
      · rw [hc1 k r.1]; exact r.2.1
      · exact hc5 k r.1 r.2
    · intro u hu k hk
      rcases husl u hu k hk with r | r
      · rw [hc1 k r.1]; exact r.2
      · exact hc5 k r.1 r.2
    · intro k hk
      rcases hvl7l k hk with r | r
      · rw [hc1 k r.1]; exact r.2
      · rw [hc6 k r, if_pos hk]
    · intro k hk
      rcases hvr7l k hk with r | r
      · rw [hc1 k r.1]; exact r.2
      · rw [hc6 k r, if_neg (fun q => hapt (q.trans hk.symm))]
  have HB7 : Hid (Below B w w7) := by
    refine ⟨?_, ?_, ?_, by omega, fun q hq => ?_⟩
    · rw [hw7]; exact HT6.out.os.trans (HS.out.os.trans (ho4.trans HT1.out.os))
    · rw [hw7]; exact HT6.out.tape.trans (HS.out.tape.trans (ht4.trans HT1.out.tape))
    · rw [hw7]; exact HT6.out.output.trans (HS.out.output.trans (hu4.trans HT1.out.output))
    · have b1 := H.out.ce.2
      have b2 := H.out.cv.2
      have b3 := H.out.cp.2
      have b4 := H.out.cX.2
      rw [ho7 q (by omega), HT6.out.block q (by omega) (fun hh => by omega), HS.out.kp q (by omega) (fun _ e1 => by have := HVL.out.1 q e1.symm; omega) (fun _ e1 => by have := HVL.out.2 q e1.symm; omega) (by omega)]
      rw [hB14 q hq]
      exact HT1.out.block q (by omega) (fun hh => by omega)
  have K17 : ∀ q, w.heap.size ≤ q → q < w1.heap.size → w7.heap[q]? = w1.heap[q]? := fun q hq hq2 => by
    rw [K47 q (by omega) (fun h5 => by omega)]
    exact K14 q hq2 (by omega) (fun h5 => by omega)
  have HSP : Hid (∀ (i : Nat) (u : Value) (c : List Int), us1[i]? = some u → C1[i]? = some c → ∃ (g : Nat) (A : Array Value), u = .slice (some ⟨g, 0, none⟩) c.length c.length ∧ w.heap.size ≤ g ∧ g < w1.heap.size ∧ (Value.slice av m1 cv).ownBlock ≠ some g ∧ w7.heap[g]? = some (.cells A 3 (0, 0)) ∧ A.size = c.length) := fun i u c hu hc => by
    obtain ⟨q, ⟨r1, r2, r3⟩, -, r5⟩ := HGT.out.cl i u c hu hc
    have hql := (Array.getElem?_eq_some_iff.1 r3).1
    exact ⟨q, _, r1, by omega, hql, r5, (K17 q (by omega) hql).trans r3, by simp⟩
  have HROW : Hid (∀ wr, Tn w7 wr (fun q => w.heap.size ≤ q ∧ q < w1.heap.size ∧ (Value.slice av m1 cv).ownBlock ≠ some q) → ∀ (j : Nat) (u : Value), us1[j]? = some u → ∃ r, av = some ⟨r, 0, none⟩ ∧ wr.cell? ⟨r, j, none⟩ = some u) := fun wr hT j u hj => by
    obtain ⟨r, rfl, r1, r2, r3⟩ := HVAT.out.resolve_left (fun e1 => by rw [e1] at hj; simp at hj)
    exact ⟨r, rfl, (World.cell?_of_block (a := ⟨r, j, none⟩) ((hT.block r (by omega) (fun q => q.2.2 rfl)).trans (K17 r (by omega) r2))).trans (r3 j u hj)⟩
  have HC9 : Hid (∀ q, w.heap.size ≤ q → q < w1.heap.size → col' q = 9) := hc9
  have hm2 : m1 ≤ 90000 := by rw [HM1.out]; exact HLN.out
  have hB7s : w.heap.size ≤ w7.heap.size := by omega
  clear hw7 ho7 hX7 K57 K47 hra1 hrb1 hra2 hrb2 hapt hLs4 hva3l husl ho4 ht4 hu4 hvl7l hvr7l hcol' hc1 hc9 hc5 hc6 K14 hB14 K17 hs7 hvl7 hvr7
  go_loopw [10] (fun i wr => ∃ k : Nat, k ≤ m1 ∧ i = .int .i64 (k : Int) ∧ Hid (Tn w7 wr (fun q => w.heap.size ≤ q ∧ q < w1.heap.size ∧ (Value.slice av m1 cv).ownBlock ≠ some q) ∧ ∀ (i : Nat) (u : Value) (c : List Int), us1[i]? = some u → C1[i]? = some c → ∃ (g : Nat) (A : Array Value), u = .slice (some ⟨g, 0, none⟩) c.length c.length ∧ w.heap.size ≤ g ∧ g < w1.heap.size ∧ (Value.slice av m1 cv).ownBlock ≠ some g ∧ wr.heap[g]? = some (.cells A 3 (0, 0)) ∧ A.size = c.length)) (fun i wr => m1 - (intOf i).toNat)
  case atStart => exact ⟨0, Nat.zero_le _, rfl, Tn.refl _ _, HSP.out⟩
  case round =>
    obtain ⟨k, hk, rfl, hH⟩ := hrel
    by_cases hlt : k < m1
    · obtain ⟨c, hck⟩ : ∃ c, C1[k]? = some c := ⟨_, List.getElem?_eq_getElem (by rw [← HM1.out]; exact hlt)⟩
      obtain ⟨u, huk⟩ : ∃ u, us1[k]? = some u := ⟨_, List.getElem?_eq_getElem (by rw [HGT.out.len, ← HM1.out]; exact hlt)⟩
      obtain ⟨gq, A, hu, q1, q2, q3, q4, q5⟩ := hH.out.2 k u c huk hck
      obtain ⟨r, hav, dx⟩ := HROW.out wr hH.out.1 k u huk
      have hcl := (HNE.out c (List.mem_of_getElem? hck)).2
      obtain ⟨nn, hnn⟩ : ∃ y, y = c.length := ⟨_, rfl⟩
      rw [← hnn] at hu q5 hcl
      subst hu
      have HSC : Hid _ := spoil_any (c := nn) q4 q5 hcl
      have HG : Hid (w.heap.size ≤ gq ∧ gq < w1.heap.size ∧ (Value.slice av m1 cv).ownBlock ≠ some gq) := ⟨q1, q2, q3⟩
      have HQ4 : Hid _ := q4
      have HQ5 : Hid (A.size = nn) := q5
      have hltI : (k : Int) < (m1 : Int) := by omega
      have hgl : gq < wr.heap.size := (Array.getElem?_eq_some_iff.1 q4).1
      rw [hav]
      clear hck huk q1 q2 q3 q4 hnn q5
      go_wp2_with fail
      refine Calls.mono HSC.out ?_
      rintro ev w8 ⟨rfl, ⟨A8, hA8, hz8⟩, hT8⟩
      have H8 : Hid (Tn w7 w8 (fun q => w.heap.size ≤ q ∧ q < w1.heap.size ∧ (Value.slice av m1 cv).ownBlock ≠ some q) ∧ ∀ (i : Nat) (u : Value) (c : List Int), us1[i]? = some u → C1[i]? = some c → ∃ (g : Nat) (A : Array Value), u = .slice (some ⟨g, 0, none⟩) c.length c.length ∧ w.heap.size ≤ g ∧ g < w1.heap.size ∧ (Value.slice av m1 cv).ownBlock ≠ some g ∧ w8.heap[g]? = some (.cells A 3 (0, 0)) ∧ A.size = c.length) := by
        refine ⟨hH.out.1.trans (hT8.mono (fun q hq => by rw [hq]; exact HG.out)), fun i u' c' hu' hc' => ?_⟩
        obtain ⟨g', A', e1, e2, e3, e4, e5, e6⟩ := hH.out.2 i u' c' hu' hc'
        by_cases hgg : g' = gq
        · subst hgg
          have e7 := HQ4.out.symm.trans e5
          injection e7 with e7
          injection e7 with e8 e9 e10
          refine ⟨g', A8, e1, e2, e3, e4, ?_, ?_⟩
          · rw [hA8, e9]
          · rw [hz8]; rw [← e6, ← e8]; exact HQ5.out.symm
        · exact ⟨g', A', e1, e2, e3, e4, (hT8.block g' (Array.getElem?_eq_some_iff.1 e5).1 hgg).trans e5, e6⟩
      clear hA8 hz8 hT8
      go_wp2_with fail
      refine ⟨⟨k + 1, by omega, by go_num, ?_⟩, by simp [intOf]; omega⟩
      rw [← hav]
      exact H8.out
    · obtain rfl : k = m1 := by omega
      have hltI : ¬ (k : Int) < (k : Int) := by omega
      have hT := hH.out.1
      go_wp2_with fail
      go_end0
      refine ⟨by first | rfl | trivial, L, HUO.out, ⟨F, col', va3, vl7, vr7, us ++ us2, HR7.out.keep hT.size (fun q hq hc => hT.block q hq (fun hh => by have := HC9.out q hh.1 hh.2.1; omega))⟩, HB7.out.trans ⟨hT.os, hT.tape, hT.output, hT.size, fun q hq => hT.block q (by omega) (fun hh => by omega)⟩⟩
end Go.Proofs.Ytajpnlmglkifcaa
