import Derived.Test.YtcahhahbcijkiaaGreatMg28
import Derived.Test.YtcahhahbcijkiaaGreatAG11
namespace Go.Proofs.YtcahhahbcijkiaaGreat.Ag
set_option maxHeartbeats 12800000
set_option maxRecDepth 100000
open Go.RowKit
set_option linter.unusedSimpArgs false
set_option linter.unusedVariables false
theorem wrev_any {w : World} {r cap C n : Nat} {f : Nat → Value} {L : List Int} (hL : L.length = n) (h : w.rowIs r 3 C f) (hf : ∀ x, x < n → f x = .int .i64 (L.getD x 0)) (hC : n ≤ C) (hn : n ≤ 50000) (hn0 : 0 < n) :
  Calls Tryz.prog 183 #[.slice (some ⟨r, 0, none⟩) n cap] w fun e w' => e = .returned (.tuple #[]) ∧ Li w' r 0 L.reverse ∧ Below r w w' := by
 have HL : Hid _ := hL
 have HR : Hid (w.rowIs r 3 C (rvV L f n 0)) := h.congr fun x hx => by
  unfold rvV rvF
  by_cases h1 : x < n
  ·rw [if_pos h1, if_neg (by omega)]; exact hf x h1
  ·rw [if_neg h1]
 clear h hf hL
 have e0 : wrap64 ((n : Int) - 1) = (n : Int) - 1 := by unfold wrap64; omega
 go_enter Tryz.func183, Tryz.ntmps183
 go_wp2_with fail
 go_loopw [2, 3] (fun i j wr => ∃ k J : Nat, k + J + 1 = n ∧ i = .int .i64 (k : Int) ∧ j = .int .i64 (J : Int) ∧ k ≤ J + 1 ∧ wr.rowIs r 3 C (rvV L f n k) ∧ Below r w wr) (fun i j wr => n - (intOf i).toNat)
 case atStart => exact ⟨0, n - 1, by omega, rfl, by simp; omega, by omega, HR.out, Below.refl _ _⟩
 case round =>
  clear HR
  obtain ⟨k, J, hs, rfl, rfl, hkJ, hr, hbl⟩ := hrel
  by_cases hlt : k < J
  ·have c1 : wr.cell? ⟨r, k, none⟩ = some (.int .i64 (L.getD k 0)) := by rw [hr.cell (by omega), rvV_in (by omega) (by omega)]
   have c2 : wr.cell? ⟨r, J, none⟩ = some (.int .i64 (L.getD J 0)) := by rw [hr.cell (by omega), rvV_in (by omega) (by omega)]
   have f1 := hr.frozen k
   have f2 := hr.frozen J
   obtain ⟨x, hx⟩ : ∃ x, x = L.getD k 0 := ⟨_, rfl⟩
   obtain ⟨y, hy⟩ : ∃ y, y = L.getD J 0 := ⟨_, rfl⟩
   rw [← hx] at c1
   rw [← hy] at c2
   have HQ : Hid (∀ wz : World, wz.heap[r]? = ((wr.setCell ⟨r, k, none⟩ (.int .i64 y)).setCell ⟨r, J, none⟩ (.int .i64 x)).heap[r]? → wz.rowIs r 3 C (rvV L f n (k + 1))) := fun wz hz => ((hr.set k (.int .i64 y)).set J (.int .i64 x)).congr (fun j _ => by rw [rvV_step hs hlt, hx, hy]) |>.of_block hz
   clear hr hx hy
   have l1 : (k : Int) < (J : Int) := by omega
   have l2 : (k : Int) < (n : Int) := by omega
   have l3 : (J : Int) < (n : Int) := by omega
   have e1 : wrap64 ((k : Int) + 1) = (k : Int) + 1 := by unfold wrap64; omega
   have e2 : wrap64 ((J : Int) - 1) = (J : Int) - 1 := by unfold wrap64; omega
   have nkJ : k ≠ J := by omega
   go_wp2_with fail
   go_region
   all_goals
    go_wp2_with fail
    refine ⟨⟨k + 1, J - 1, by omega, by go_num, by simp; omega, by omega, HQ.out _ ?_, ?_⟩, by simp [intOf]; omega⟩
    ·first | rfl | (trace_state; done)
    ·go_grown
  ·have l1 : ¬ (k : Int) < (J : Int) := by omega
   have HF : Hid (Li wr r 0 L.reverse) := by
    intro j hj
    rw [List.length_reverse, HL.out] at hj
    rw [Nat.zero_add, hr.cell (by omega)]
    unfold rvV rvF
    have e : (L.reverse).getD j 0 = L.getD (n - 1 - j) 0 := by
     rw [List.getD_eq_getElem?_getD, List.getElem?_reverse (by rw [HL.out]; exact hj), HL.out, ← List.getD_eq_getElem?_getD]
    rw [if_pos hj, e]
    by_cases h1 : j < k ∨ n ≤ j + k
    ·rw [if_pos h1]
    ·rw [if_neg h1, show n - 1 - j = j by omega]
   clear hr
   go_wp2_with fail
   go_end0
   exact ⟨rfl, HF.out, hbl⟩
theorem wnil_ne (w : World) (b : Addr) (n c : Nat) : (binOp .eql 81 (.slice (some b) n c) (.slice none 0 0)).run Tryz.prog w = .ok (.bool false) w := by kernel_rfl
section
variable {w : World} {D : Nat → Prop} {u : Value} {L : List Int}
theorem wclone_any (h : Wd w D u L) (hL : 0 < L.length) :
  Calls Tryz.prog 30 #[u] w fun ev w' => ∃ r cap, ev = .returned (.slice (some ⟨r, 0, none⟩) L.length cap) ∧ L.length ≤ cap ∧ w.heap.size ≤ r ∧ (∃ f, w'.rowIs r 3 cap f ∧ ∀ x, x < L.length → f x = .int .i64 (L.getD x 0)) ∧ Below w.heap.size w w' := by
 obtain ⟨i, hi, hz, hs, hb⟩ := info_any infoInt
 obtain ⟨a, c, e, h1, h5, -, h4⟩ := h.ex
 obtain ⟨r, o, rfl, q2, -, q4⟩ := h4.resolve_left (fun e => by rw [e] at hL; simp at hL)
 subst e
 obtain ⟨w1, hw1⟩ : ∃ y, y = w.alloc (.cells #[] 3) := ⟨_, rfl⟩
 have hb1 : Below w.heap.size w w1 := by rw [hw1]; go_grown
 have hs1 : w1.heap.size = w.heap.size + 1 := by rw [hw1]; simp
 have q5 : Li w1 r o L := Li_kept q4 (hb1.block r q2)
 have hr := run_append_grow (P := Tryz.prog) w1 81 81 3 i _ underWord hi hz ⟨w.heap.size, 0, none⟩ 0 0 [] (by simp) (fun j v hj => by simp at hj) ⟨r, o, none⟩ L.length c (L.map (Value.int .i64)) (by rw [hs]; simp) (li_at q5) (by omega) (by omega) (growslice_fits (by omega) (by rw [hb]; omega))
 rw [Nat.zero_add] at hr
 have hg := grownCap_ge w1 L.length 0 3
 obtain ⟨cap, hcap⟩ : ∃ y, y = grownCap w1 L.length 0 3 := ⟨_, rfl⟩
 rw [← hcap] at hr hg
 obtain ⟨w2, hw2⟩ : ∃ y, y = w1.drew.alloc (.cells (([] : List Value).toArray ++ (L.map (Value.int .i64)).toArray ++ Builtin.zeroCells (Value.int .i64 0).cells (cap - L.length)) 3) := ⟨_, rfl⟩
 rw [← hw2] at hr
 have HB2 : Hid (Below w.heap.size w w2) := by
  unfold Hid
  rw [hw2]
  exact hb1.trans (Below.trans (drew_b w1) (by go_grown : Below w1.drew.heap.size w1.drew _) |>.mono (by omega))
 have HROW : Hid (∃ f, w2.rowIs w1.heap.size 3 cap f ∧ ∀ x, x < L.length → f x = .int .i64 (L.getD x 0)) := by
  refine ⟨fun j => (([] : List Value).toArray ++ (L.map (Value.int .i64)).toArray ++ Builtin.zeroCells (Value.int .i64 0).cells (cap - L.length)).getD j undef, ⟨_, by rw [hw2]; exact heap_alloc_new w1.drew _, ?_, fun j hj => ?_⟩, fun x hx => ?_⟩
  ·rw [Array.size_append, size_zeroCells]
   simp [Value.cells]
   omega
  ·have hjs : j < (([] : List Value).toArray ++ (L.map (Value.int .i64)).toArray ++ Builtin.zeroCells (Value.int .i64 0).cells (cap - L.length)).size := by
    rw [Array.size_append, size_zeroCells]
    simp [Value.cells]
    omega
   simp only [Array.getD_eq_getD_getElem?]
   rw [Array.getElem?_eq_getElem hjs]
   rfl
  ·have := get_app (L := []) (L2 := L) (z := Builtin.zeroCells (Value.int .i64 0).cells (cap - L.length)) (j := x) (by simpa using hx)
   simp only [List.nil_append, List.map_nil] at this
   simp only [Array.getD_eq_getD_getElem?]
   rw [this]
   rfl
 have hne := wnil_ne w ⟨r, o, none⟩ L.length c
 rw [hw1] at hr
 have HR : Hid _ := hr
 have hws : w.heap.size ≤ w1.heap.size := by omega
 obtain ⟨n, hn⟩ : ∃ n, n = L.length := ⟨_, rfl⟩
 rw [← hn] at HR hne hg HROW h5 ⊢
 have hsz : (w.alloc (.cells #[] 3)).heap.size = w1.heap.size := by rw [hw1]
 rw [hsz] at HR
 obtain ⟨b1, hb1e⟩ : ∃ b, b = w1.heap.size := ⟨_, rfl⟩
 rw [← hb1e] at HR HROW hws
 clear h hL h1 h4 q4 q5 hr hcap hw2 hw1 hb1 hs1 hi hz hs hb hn hsz hb1e
 go_enter Tryz.func30, Tryz.ntmps30
 go_wp2_with (at_builtin; refine Lib.wpList_append_run _ rfl _ _ _ _ rfl _ _ rfl rfl _ _ HR.out ?_)
 go_ret
 exact ⟨_, _, rfl, hg, hws, HROW.out, HB2.out⟩
theorem reversed_any (h : Wd w D u L) (hL : 0 < L.length) (hD : ∀ k, D k → k < w.heap.size) :
  Calls Tryz.prog 148 #[u] w fun ev w' => ∃ u', ev = .returned u' ∧ Wd w' D u' L.reverse ∧ Below w.heap.size w w' := by
 have HC : Hid _ := wclone_any h hL
 obtain ⟨a, c, rfl, -, h5⟩ := h.sl
 have HD : Hid _ := hD
 obtain ⟨n, hn⟩ : ∃ n, n = L.length := ⟨_, rfl⟩
 have HN : Hid _ := hn
 rw [← hn] at HC h5 hL ⊢
 clear h hD hn
 go_enter Tryz.func148, Tryz.ntmps148
 go_wp2_with fail
 refine Calls.mono HC.out ?_
 rintro ev w2 ⟨r, cap, rfl, hcap, hr, ⟨f, hrow, hf⟩, hb2⟩
 have HV : Hid _ := wrev_any (cap := cap) (L := L) HN.out.symm hrow hf hcap h5 hL
 have hrl : r < w2.heap.size := by
  obtain ⟨cc, e, -⟩ := hrow
  exact (Array.getElem?_eq_some_iff.1 e).1
 have HB2 : Hid (Below w.heap.size w w2) := hb2
 clear hrow hf hb2 HC
 go_wp2_with fail
 refine Calls.mono HV.out ?_
 rintro ev w3 ⟨rfl, hLi, hb3⟩
 have HB3 : Hid (Below w.heap.size w w3) := HB2.out.trans (hb3.mono hr)
 have HW : Hid (Wd w3 D (.slice (some ⟨r, 0, none⟩) n cap) L.reverse) := by
  refine ⟨_, cap, by rw [List.length_reverse, ← HN.out], by rw [List.length_reverse, ← HN.out]; exact hcap, by rw [List.length_reverse, ← HN.out]; exact h5, (fun e => by cases e), Or.inr ⟨r, 0, rfl, by have := hb3.size; omega, fun e => by have := HD.out r e; omega, hLi⟩⟩
 clear hLi hb3 HV
 go_wp2_with fail
 go_ret
 exact ⟨_, rfl, HW.out, HB3.out⟩
end
open Go.RowKit
def lgc (n : Nat) : Nat := if n ≤ 1 then 0 else (n - 1).log2 + 1
theorem lgc_lt {n j : Nat} (h : 2 ^ j < n) : j < lgc n := by
 have h1 : 0 < 2 ^ j := Nat.pow_pos (by omega)
 unfold lgc
 rw [if_neg (by omega)]
 have : j ≤ (n - 1).log2 := (Nat.le_log2 (by omega)).2 (by omega)
 omega
theorem lgc_ge {n j : Nat} (h : ¬ 2 ^ j < n) : lgc n ≤ j := by
 unfold lgc
 split
 ·omega
 ·have : (n - 1).log2 < j := (Nat.log2_lt (by omega)).2 (by omega)
  omega
theorem lgc_n {n : Nat} (h : 0 < n) : lgc n < n := by
 have : ¬ 2 ^ (n - 1) < n := by have := Nat.lt_two_pow_self (n := n - 1); omega
 have := lgc_ge this
 omega
def shiftK (mo : Nat) (s : Gz) (A B : List Int) (fill : Int) : Nat → List Int × Gz
 | 0 => (A, s)
 | j + 1 => wchoiceF mo (shiftK mo s A B fill j).2 (B.getD j 0) ((shiftK mo s A B fill j).1.drop (2 ^ j) ++ List.replicate (2 ^ j) fill) (shiftK mo s A B fill j).1
def shiftF (mo : Nat) (s : Gz) (A B : List Int) (fill : Int) : List Int × Gz :=
 wchoiceF mo (anyF mo (shiftK mo s A B fill (lgc A.length)).2 (B.drop (lgc A.length))).2 (anyF mo (shiftK mo s A B fill (lgc A.length)).2 (B.drop (lgc A.length))).1 (List.replicate A.length fill) (shiftK mo s A B fill (lgc A.length)).1
section
variable {w : World} {F : Nat → Prop} {gs g mo : Nat} {s : Gz} {ua ub : Value} {A B : List Int} {fill : Int}
theorem Oks.drop {n : Nat} (h : Oks s A) : Oks s (A.drop n) := fun x hx => h x (List.mem_of_mem_drop hx)
theorem Oks.take {n : Nat} (h : Oks s A) : Oks s (A.take n) := fun x hx => h x (List.mem_of_mem_take hx)
theorem Oks.app (h : Oks s A) (h2 : Oks s B) : Oks s (A ++ B) := fun x hx => (List.mem_append.1 hx).elim (h x) (h2 x)
theorem dr_len {n m : Nat} {c : Int} (h : n ≤ m) (hm : A.length = m) : (A.drop n ++ List.replicate n c).length = m := by
 rw [List.length_append, List.length_drop, List.length_replicate]
 omega
theorem shiftK_ok {mo : Nat} {s : Gz} {A B : List Int} {fill : Int} (hp : 0 < s.ks.length) (oA : Oks s A) (of : OkG s fill) : ∀ j, j ≤ lgc A.length → WOk s (shiftK mo s A B fill j) A.length
 | 0, _ => ⟨Pg.refl _, rfl, oA⟩
 | j + 1, h => by
  have ih := shiftK_ok (mo := mo) (B := B) hp oA of j (by omega)
  have hj : 2 ^ j < A.length := by
   by_cases hq : 2 ^ j < A.length
   ·exact hq
   ·have := lgc_ge hq; omega
  have hl := dr_len (c := fill) (n := 2 ^ j) (by omega) ih.len
  have := wchoice_wok (mo := mo) (c := B.getD j 0) (s := (shiftK mo s A B fill j).2) (A := (shiftK mo s A B fill j).1.drop (2 ^ j) ++ List.replicate (2 ^ j) fill) (B := (shiftK mo s A B fill j).1) (by have := ih.pre.length_le; omega) (Oks.app (Oks.drop ih.ok) (Oks.rep (of.grow ih.pre) _)) ih.ok (by rw [hl, ih.len]; exact Nat.le_refl _)
  rw [hl] at this
  exact ⟨ih.pre.trans this.pre, this.len, this.ok⟩
theorem shift_wok (hp : 0 < s.ks.length) (oA : Oks s A) (of : OkG s fill) : WOk s (shiftF mo s A B fill) A.length := by
 have h := shiftK_ok (mo := mo) (B := B) hp oA of (lgc A.length) (Nat.le_refl _)
 have hp2 : 0 < (shiftK mo s A B fill (lgc A.length)).2.ks.length := by have := h.pre.length_le; omega
 obtain ⟨h1, h2⟩ := anyF_ok (mo := mo) (L := B.drop (lgc A.length)) hp2
 have h3 := wchoice_wok (mo := mo) (c := (anyF mo (shiftK mo s A B fill (lgc A.length)).2 (B.drop (lgc A.length))).1) (s := (anyF mo (shiftK mo s A B fill (lgc A.length)).2 (B.drop (lgc A.length))).2) (A := List.replicate A.length fill) (B := (shiftK mo s A B fill (lgc A.length)).1) (by have := h1.length_le; omega) (Oks.rep ((of.grow h.pre).grow h1) _) (Oks.grow h.ok h1) (by rw [List.length_replicate, h.len]; exact Nat.le_refl _)
 rw [List.length_replicate] at h3
 exact ⟨(h.pre.trans h1).trans h3.pre, h3.len, h3.ok⟩
theorem addr_add (r o j : Nat) : (⟨r, o, none⟩ : Addr).add j = ⟨r, o + j, none⟩ := by by_cases hj0 : j = 0 <;> simp [Addr.add, hj0]
theorem Wd.from {D : Nat → Prop} {L : List Int} {b : Addr} {n m c : Nat} (h : Wd w D (.slice (some b) m c) L) (hn : n ≤ L.length) : Wd w D (.slice (some (b.add n)) (L.length - n) (c - n)) (L.drop n) := by
 obtain ⟨a', c', e, h1, h5, h3, h4⟩ := h.ex
 injection e with e1 e2 e3
 refine ⟨_, c - n, by rw [List.length_drop], by rw [List.length_drop]; omega, by rw [List.length_drop]; omega, (fun e => by cases e), ?_⟩
 rcases h4 with h4 | ⟨r, o, q1, q2, q3, q4⟩
 ·left; rw [h4]; simp
 ·rw [q1] at e1
  injection e1 with e1
  subst e1
  refine Or.inr ⟨r, o + n, by by_cases hq0 : n = 0 <;> simp [Addr.add, hq0], q2, q3, fun j hj => ?_⟩
  rw [List.length_drop] at hj
  have := q4 (n + j) (by omega)
  rw [Nat.add_assoc, this]
  congr 2
  rw [List.getD_eq_getElem?_getD, List.getD_eq_getElem?_getD, List.getElem?_drop]
theorem shift_any (h : Gn w F gs g mo s) (hA : Wd w (FG F gs) ua A) (hB : Wd w (FG F gs) ub B) (hl : A.length = B.length) (hn0 : 0 < A.length) (oA : Oks s A) (oB : Oks s B) (of : OkG s fill) :
  Calls Tryz.prog 147 #[.pointer (some ⟨gs, 0, none⟩), ua, ub, .int .i64 fill] w (WG w F gs g mo (shiftF mo s A B fill)) := by
 have H : Hid _ := h
 have HA : Hid _ := hA
 have HB : Hid _ := hB
 have HOA : Hid _ := oA
 have HOB : Hid _ := oB
 have HOF : Hid (OkG s fill) := of
 have hpos := h.pos
 obtain ⟨-, -, -, -, h5⟩ := hA.sl
 obtain ⟨rb, ob, cb, rfl, -, -⟩ := hB.cell (k := 0) (by omega)
 have hcb : B.length ≤ cb := by
  obtain ⟨a', c', e, h1, -⟩ := hB.ex
  injection e with e1 e2 e3
  rw [e3]; exact h1
 obtain ⟨q, hq⟩ : ∃ q, q = shiftF mo s A B fill := ⟨_, rfl⟩
 rw [← hq]
 have HQ : Hid _ := hq
 obtain ⟨n, hn⟩ : ∃ n, n = A.length := ⟨_, rfl⟩
 have HN : Hid _ := hn
 have HNB : Hid (n = B.length) := hn.trans hl
 rw [← HNB.out] at hcb ⊢
 rw [← hn] at h5 hn0
 clear h hA hB oA oB of hq hn hl
 go_enter Tryz.func147, Tryz.ntmps147
 go_wp2_with fail
 go_loopw [1, 9, 10] (fun v fr pl wr => ∃ j p : Nat, j ≤ lgc n ∧ Hid (p = 2 ^ j) ∧ fr = .int .i64 (j : Int) ∧ pl = .int .i64 (p : Int) ∧ Hid (∃ F', Wd wr (FG F' gs) v (shiftK mo s A B fill j).1 ∧ Gn wr F' gs g mo (shiftK mo s A B fill j).2 ∧ Ch w wr (FG F gs) (FG F' gs))) (fun v fr pl wr => lgc n - (intOf fr).toNat)
 case atStart => exact ⟨0, 1, Nat.zero_le _, rfl, rfl, rfl, F, HA.out, H.out, Ch.refl _ _⟩
 case round =>
  obtain ⟨j, p, hj, hp, rfl, rfl, F1, hW1, hG1, hC1⟩ := hrel
  have hok := shiftK_ok (mo := mo) (B := B) hpos HOA.out HOF.out j (by rw [← HN.out]; exact hj)
  obtain ⟨K, hK⟩ : ∃ y, y = shiftK mo s A B fill j := ⟨_, rfl⟩
  rw [← hK] at hok hW1 hG1
  obtain ⟨av, cv, rfl, -, -⟩ := hW1.sl
  rw [hok.len, ← HN.out] at hW1 ⊢
  have hlk : K.1.length = n := by rw [hok.len, ← HN.out]
  have hjn : j < n := by have := lgc_n hn0; omega
  by_cases hpn : p < n
  ·have hjl : j < lgc n := by rw [hp.out] at hpn; exact lgc_lt hpn
   obtain ⟨rb', ob', cb', eb, hrb, hcell⟩ := (HB.out.ch hC1).cell (k := j) (by rw [← HNB.out]; exact hjn)
   rw [← HNB.out] at eb
   injection eb with eb1 eb2 eb3
   injection eb1 with eb1
   injection eb1 with eb4 eb5
   subst eb4
   subst eb5
   obtain ⟨x, hx⟩ : ∃ x, x = B.getD j 0 := ⟨_, rfl⟩
   have okx : OkG K.2 x := (by rw [hx]; exact HOB.out _ (getD_mem (by rw [← HNB.out]; exact hjn)) : OkG s x).grow hok.pre
   have HST : Hid (shiftK mo s A B fill (j + 1) = wchoiceF mo K.2 x (K.1.drop p ++ List.replicate p fill) K.1) := by
    unfold Hid
    rw [hK, hx, hp.out]
    rfl
   rw [← hx] at hcell
   have HCE : Hid (∀ wx, Below wr.heap.size wr wx → wx.cell? ⟨rb, ob + j, none⟩ = some (.int .i64 x)) := fun wx hb => keep_cell hb hcell
   have dc : wr.drew.cell? ⟨rb, ob + j, none⟩ = some (.int .i64 x) := hcell
   have HD : Hid (∀ wx, Below wr.heap.size wr wx → Calls Tryz.prog 182 #[.slice av n cv, .int .i64 (p : Int), .int .i64 fill] wx fun ev w' => ∃ u', ev = .returned u' ∧ Wd w' (FG F1 gs) u' (K.1.drop p ++ List.replicate p fill) ∧ Below wx.heap.size wx w') := fun wx hb => down_any (hW1.below hb) (by rw [hlk]; exact hpn) (hG1.below hb).fd
   have HCH : Hid (∀ wx u', Below wr.heap.size wr wx → Wd wx (FG F1 gs) u' (K.1.drop p ++ List.replicate p fill) → Calls Tryz.prog 63 #[.pointer (some ⟨gs, 0, none⟩), .int .i64 x, u', .slice av n cv] wx (WG wx F1 gs g mo (shiftK mo s A B fill (j + 1)))) := fun wx u' hb hu => by
    rw [HST.out]
    exact wchoice_any (hG1.below hb) okx hu (hW1.below hb) (by rw [dr_len (by omega) hlk, hlk]; exact Nat.le_refl _) (Oks.app (Oks.drop hok.ok) (Oks.rep (HOF.out.grow hok.pre) _)) hok.ok
   have HC1 : Hid (Ch w wr (FG F gs) (FG F1 gs)) := hC1
   have hpI : (p : Int) < (n : Int) := by omega
   have hjI : (j : Int) < (n : Int) := by omega
   clear hW1 hG1 hC1 hok hK hlk hx okx hcell eb2 eb3
   go_wp2_with fail
   go_region_with (first | (go_at_call 182; refine (HD.out _ (drew_b _)).mono ?_; rintro ev w2 ⟨u2, rfl, hW2, hb2⟩; have hb22 : Below wr.heap.size wr w2 := (drew_b wr).trans hb2; have dc2 := HCE.out w2 hb22) | (go_at_call 63; refine (HCH.out _ _ hb22 hW2).mono ?_; rintro ev w3 ⟨u3, rfl, F3, hW3, hG3, hC3⟩))
   all_goals
    have HF : Hid (∃ F', Wd w3 (FG F' gs) u3 (shiftK mo s A B fill (j + 1)).1 ∧ Gn w3 F' gs g mo (shiftK mo s A B fill (j + 1)).2 ∧ Ch w w3 (FG F gs) (FG F' gs)) := ⟨F3, hW3, hG3, (HC1.out.trans (Ch.of_below _ hb22)).trans hC3⟩
    have hp2 : Hid (p * 2 = 2 ^ (j + 1)) := by unfold Hid; rw [Nat.pow_succ, hp.out]
    clear hW3 hG3 hC3 hW2 hb2 hb22
    go_wp2_with fail
    exact ⟨⟨j + 1, p * 2, by omega, hp2, by go_num, by go_num, HF.out⟩, by simp [intOf]; omega⟩
  ·have hjl : j = lgc n := by
    have : lgc n ≤ j := lgc_ge (by rw [← hp.out]; exact hpn)
    omega
   have hpI : ¬ (p : Int) < (n : Int) := by omega
   have HY : Hid _ := any_any hG1 ((HB.out.ch hC1).from (n := j) (by rw [← HNB.out]; omega)) (fun x hx => (HOB.out x (List.mem_of_mem_drop hx)).grow hok.pre)
   obtain ⟨y1, y2⟩ := anyF_ok (mo := mo) (L := B.drop j) hG1.pos
   rw [← HNB.out, addr_add] at HY
   have HQ2 : Hid (q = wchoiceF mo (anyF mo K.2 (B.drop j)).2 (anyF mo K.2 (B.drop j)).1 (List.replicate n fill) K.1) := by
    unfold Hid
    rw [HQ.out, hK, hjl, HN.out]
    rfl
   obtain ⟨Y, hY⟩ : ∃ y, y = anyF mo K.2 (B.drop j) := ⟨_, rfl⟩
   rw [← hY] at HY HQ2 y1 y2
   have HW1 : Hid (Wd wr (FG F1 gs) (.slice av n cv) K.1) := hW1
   have HC1 : Hid (Ch w wr (FG F gs) (FG F1 gs)) := hC1
   have HK : Hid (Oks Y.2 K.1 ∧ OkG Y.2 fill ∧ OkG Y.2 Y.1 ∧ K.1.length = n) := ⟨Oks.grow hok.ok y1, (HOF.out.grow hok.pre).grow y1, y2, hlk⟩
   have hjI : (j : Int) < (n : Int) := by omega
   clear hW1 hG1 hC1 hok hK hlk y1 y2 hY hjl
   go_wp2_with fail
   refine Calls.mono HY.out ?_
   rintro ev w2 ⟨rfl, F2, hG2, hC2⟩
   have HFI : Hid _ := filled_any (w := w2) (D := FG F2 gs) (l := fill) (n := n) h5 hG2.fd
   have HG2 : Hid (Gn w2 F2 gs g mo Y.2) := hG2
   have HC2 : Hid (Ch w w2 (FG F gs) (FG F2 gs)) := HC1.out.trans hC2
   have HW2 : Hid (Wd w2 (FG F2 gs) (.slice av n cv) K.1) := HW1.out.ch hC2
   clear hG2 hC2 HY
   go_wp2_with fail
   refine Calls.mono HFI.out ?_
   rintro ev w3 ⟨u3, rfl, hW3, hb3⟩
   have HCC : Hid _ := wchoice_any (c := Y.1) (HG2.out.below hb3) HK.out.2.2.1 hW3 (HW2.out.below hb3) (by rw [List.length_replicate, HK.out.2.2.2]; exact Nat.le_refl _) (Oks.rep HK.out.2.1 _) HK.out.1
   rw [← HQ2.out] at HCC
   have HC3 : Hid (Ch w w3 (FG F gs) (FG F2 gs)) := HC2.out.trans (Ch.of_below _ hb3)
   clear hW3 hb3 HFI
   go_wp2_with fail
   refine Calls.mono HCC.out ?_
   rintro ev w4 ⟨u4, rfl, F4, hW4, hG4, hC4⟩
   have HF : Hid (∃ F', Wd w4 (FG F' gs) u4 q.1 ∧ Gn w4 F' gs g mo q.2 ∧ Ch w w4 (FG F gs) (FG F' gs)) := ⟨F4, hW4, hG4, HC3.out.trans hC4⟩
   clear hW4 hG4 hC4 HCC
   go_wp2_with fail
   go_ret
   exact ⟨_, rfl, HF.out⟩
end
end Go.Proofs.YtcahhahbcijkiaaGreat.Ag
