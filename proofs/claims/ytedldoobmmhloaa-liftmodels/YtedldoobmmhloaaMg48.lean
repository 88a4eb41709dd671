import Derived.Test.YtedldoobmmhloaaMg47
import Derived.Test.YtedldoobmmhloaaMg33
import Derived.Deep.QuietTactic
import Derived.BigQuiet
import Derived.Deep.RegionHeld3
import Derived.Test.YtedldoobmmhloaaMg46
import Derived.Test.YtedldoobmmhloaaK
import Derived.Test.YtedldoobmmhloaaO2
namespace Go.Proofs.Ytedldoobmmhloaa
open Go.RowKit
set_option linter.unusedSimpArgs false
set_option linter.unusedVariables false
theorem cone_rises {ns : List Nd} (hv : Inv ns) (id : Int) : (coneL ns id).Pairwise (· < ·) := by
 unfold coneL
 split
 ·rename_i hb
  have hb' : 1 ≤ id ∧ id ≤ (ns.length : Int) := by simpa [hasB] using hb
  rw [cone_list hv (by omega), List.pairwise_map]
  refine List.Pairwise.filter _ ?_
  refine (List.pairwise_lt_range' (s := 1) (n := id.toNat)).imp ?_
  intro a b h
  omega
 ·exact List.Pairwise.nil
theorem idx_lt {L : List Int} (hL : L.Pairwise (· < ·)) {j : Nat} {p q : Int} (hj : L[j]? = some p) (hq : q ∈ L) (h : q < p) : ∃ i, i < j ∧ L[i]? = some q := by
 obtain ⟨i, hi, rfl⟩ := List.getElem_of_mem hq
 refine ⟨i, ?_, List.getElem?_eq_getElem hi⟩
 obtain ⟨hjl, hje⟩ := List.getElem?_eq_some_iff.1 hj
 apply Classical.byContradiction
 intro hn
 by_cases e : i = j
 ·subst e; omega
 ·have := List.pairwise_iff_getElem.1 hL j i hjl hi (by omega)
  omega
def Upo (ns : List Nd) : Prop := ∀ n ∈ ns, ∀ q ∈ used n, 1 ≤ q
theorem used_kid {n : Nd} {q : Int} (h : q ∈ used n) : q = n.a ∨ q = n.b ∨ q = n.c := by
 have := List.mem_of_mem_take h
 simpa using this
theorem cone_shut {ns : List Nd} (hv : Inv ns) (hU : Upo ns) {id : Nat} (hid : id ≤ ns.length) {G M : List (Int × Bt)} (hf : ∀ (i : Nat) (n : Nd), ((i : Int) + 1) ∈ coneL ns (id : Int) → ns[i]? = some n → n.op = 2 → fits G ((i : Int) + 1) n.s = true) :
  ∀ (j : Nat) (p : Int), (coneL ns (id : Int))[j]? = some p → ∃ n, Good ns G p n ∧ ∀ q ∈ used n, (getM M q).isSome = true ∨ ∃ i, i < j ∧ (coneL ns (id : Int))[i]? = some q := by
 intro j p hp
 have hin := cone_in hv (List.mem_of_getElem? hp)
 obtain ⟨i, rfl⟩ : ∃ i : Nat, p = (i : Int) + 1 := ⟨(p - 1).toNat, by omega⟩
 have e : ((i : Int) + 1 - 1).toNat = i := by omega
 obtain ⟨n, hn⟩ : ∃ n, ns[i]? = some n := ⟨_, List.getElem?_eq_getElem (by omega)⟩
 refine ⟨n, ⟨by rw [e]; exact hn, by omega, fun h2 => hf i n (List.mem_of_getElem? hp) hn h2⟩, fun q hq => Or.inr ?_⟩
 have hq1 := hU n (List.mem_of_getElem? hn) q hq
 have hkid := used_kid hq
 have hk := hv.kids i n hn
 obtain ⟨k, rfl⟩ : ∃ k : Nat, q = (k : Int) := ⟨q.toNat, by omega⟩
 have hr : Rch ns id (i + 1) := (mem_coneL hv (by omega) hid).1 (List.mem_of_getElem? hp)
 have hr2 : Rch ns id k := .step hr (by omega) (by rw [show i + 1 - 1 = i by omega]; exact hn) hkid
 exact idx_lt (cone_rises hv _) hp ((mem_coneL hv (by omega) hid).2 hr2) (by omega)
theorem vG_ok {A : Int → Int → Int → List Bt → Bt × Int} (hA : ApF A) {ns : List Nd} (hv : Inv ns) (hN : Nok ns) (hS : Sok ns) (hU : Upo ns) {G M : List (Int × Bt)} (hG : ∀ p ∈ G, Bk p.2) (hK : Kok ns M) {id : Nat} (h1 : 1 ≤ id) (hid : id ≤ ns.length)
  (hf : ∀ (i : Nat) (n : Nd), ((i : Int) + 1) ∈ coneL ns (id : Int) → ns[i]? = some n → n.op = 2 → fits G ((i : Int) + 1) n.s = true) :
  (vG A ns G M (id : Int)).2.2 = 0 ∧ Kok ns (vG A ns G M (id : Int)).1 ∧ sof (vG A ns G M (id : Int)).2.1 = sAt ns (id : Int) := by
 unfold vG
 cases hy : getM M (id : Int) with
 | some y => exact ⟨rfl, hK, hK.2 _ y hy⟩
 | none =>
  have hne : ¬ coneL ns (id : Int) = [] := by
   intro e
   have : ((id : Nat) : Int) ∈ coneL ns (id : Int) := (mem_coneL hv h1 hid).2 .here
   rw [e] at this; cases this
  simp only [hne, if_false]
  obtain ⟨c1, c2, c3⟩ := vloop_ok hA hN hS hG (coneL ns (id : Int)) M hK (cone_shut hv hU hid hf)
  refine ⟨c1, c2, ?_⟩
  rw [if_pos c1]
  obtain ⟨v, hv2⟩ := Option.isSome_iff_exists.1 (c3 _ (Or.inr ((mem_coneL hv h1 hid).2 .here)))
  unfold kn
  rw [hv2]
  exact c2.2 _ v hv2
end Go.Proofs.Ytedldoobmmhloaa
namespace Go.Proofs.Ytedldoobmmhloaa
open Go.RowKit
set_option linter.unusedSimpArgs false
set_option linter.unusedVariables false
def Lv (w : World) (g o : Nat) (l : List Nv) : Prop := ∀ (j : Nat) (x : Nv), l[j]? = some x → ∀ t u, x.cs[t]? = some u → w.cell? ⟨g, o + j * 4 + t, none⟩ = some u
set_option maxRecDepth 20000 in
set_option maxHeartbeats 6400000 in
theorem named_same {w : World} {g o c g' o' c' : Nat} {l : List Nv} (h : Lv w g o l) (h' : Lv w g' o' l) (hl : l.length ≤ 100000) (hg : g < w.heap.size) (hg' : g' < w.heap.size) :
  Calls Try.prog 16 #[.slice (some ⟨g, o, none⟩) l.length c, .slice (some ⟨g', o', none⟩) l.length c'] w fun e w' => e = .returned (.bool true) ∧ Below w.heap.size w w' := by
 have HC : Hid _ := h
 have HD : Hid _ := h'
 obtain ⟨n, hn⟩ : ∃ n, n = l.length := ⟨_, rfl⟩
 rw [← hn] at hl ⊢
 have HN : Hid _ := hn
 clear h h' hn
 have z1 : ((n : Int) == n) = true := by simp
 have y1 : ((n : Int) != n) = false := by simp
 go_enter Try.func16, Try.ntmps16
 go_wp2_with fail
 go_loopw [5] (fun i wr => ∃ k : Nat, k ≤ n ∧ i = .int .i64 (k : Int) ∧ Below w.heap.size w wr) (fun i wr => n - (intOf i).toNat)
 case atStart => exact ⟨0, Nat.zero_le _, rfl, Below.refl _ _⟩
 case round =>
  obtain ⟨k, hk, rfl, hbl⟩ := hrel
  by_cases hlt : k < n
  ·obtain ⟨x, hx⟩ : ∃ x, l[k]? = some x := ⟨_, List.getElem?_eq_getElem (by rw [← HN.out]; exact hlt)⟩
   have q1 := HC.out k x hx
   have q2 := HD.out k x hx
   have a0 : wr.cell? ⟨g, o + k * 4, none⟩ = some (.string x.nm) := bel_cell hbl hg (q1 0 _ rfl)
   have a1 : wr.cell? ⟨g, o + k * 4 + 1, none⟩ = some (.int .i64 x.v.w) := bel_cell hbl hg (q1 1 _ rfl)
   have a2 : wr.cell? ⟨g, o + k * 4 + 2, none⟩ = some (.int .u64 x.v.lo) := bel_cell hbl hg (q1 2 _ rfl)
   have a3 : wr.cell? ⟨g, o + k * 4 + 3, none⟩ = some (.int .u64 x.v.hi) := bel_cell hbl hg (q1 3 _ rfl)
   have b0 : wr.cell? ⟨g', o' + k * 4, none⟩ = some (.string x.nm) := bel_cell hbl hg' (q2 0 _ rfl)
   have b1 : wr.cell? ⟨g', o' + k * 4 + 1, none⟩ = some (.int .i64 x.v.w) := bel_cell hbl hg' (q2 1 _ rfl)
   have b2 : wr.cell? ⟨g', o' + k * 4 + 2, none⟩ = some (.int .u64 x.v.lo) := bel_cell hbl hg' (q2 2 _ rfl)
   have b3 : wr.cell? ⟨g', o' + k * 4 + 3, none⟩ = some (.int .u64 x.v.hi) := bel_cell hbl hg' (q2 3 _ rfl)
   have hltI : (k : Int) < (n : Int) := by omega
   clear hx q1 q2
   go_wp2_with fail
   go_region_held3 (fun y => y.cell? ⟨g, o + k * 4, none⟩ = some (.string x.nm) ∧ y.cell? ⟨g, o + k * 4 + 1, none⟩ = some (.int .i64 x.v.w) ∧ y.cell? ⟨g, o + k * 4 + 2, none⟩ = some (.int .u64 x.v.lo) ∧ y.cell? ⟨g, o + k * 4 + 3, none⟩ = some (.int .u64 x.v.hi) ∧ y.cell? ⟨g', o' + k * 4, none⟩ = some (.string x.nm) ∧ y.cell? ⟨g', o' + k * 4 + 1, none⟩ = some (.int .i64 x.v.w) ∧ y.cell? ⟨g', o' + k * 4 + 2, none⟩ = some (.int .u64 x.v.lo) ∧ y.cell? ⟨g', o' + k * 4 + 3, none⟩ = some (.int .u64 x.v.hi))
    ((refine ⟨?_, ?_, ?_, ?_, ?_, ?_, ?_, ?_⟩ <;> simp [go_sem, a0, a1, a2, a3, b0, b1, b2, b3]))
    (fail)
   go_wp2_with fail
   exact ⟨⟨k + 1, by omega, by go_num, hbl.drew⟩, by simp [intOf]; omega⟩
  ·obtain rfl : k = n := by omega
   have hltI : ¬ (k : Int) < (k : Int) := by omega
   go_wp2_with fail
   go_ret
   exact ⟨rfl, hbl⟩
end Go.Proofs.Ytedldoobmmhloaa
namespace Go.Proofs.Ytedldoobmmhloaa
open Go.RowKit
set_option linter.unusedSimpArgs false
set_option linter.unusedVariables false
def b9 : Bt := ⟨4, 9, 0⟩
def b2 : Bt := ⟨4, 2, 0⟩
def M3 : Nd := ⟨29, 0, 1, 2, 0, 0, 0, 0, 0, 0, ⟨#[]⟩⟩
def K3 : List Nd := [N1, N2, M3]
def FL3 : List (Int × Bt) := [(1, b9), (2, b2), (3, zBt)]
def pvk (p : Int) : Bt := if p = 1 then b9 else if p = 2 then b2 else zBt
section
variable {w : World} {B g mi mv mo wb mg mk : Nat} {v : Value} {G M : List (Int × Bt)}
end
def Ex : Nv := ⟨⟨#[120]⟩, b9⟩
theorem gr_of {w wx : World} {B g mi mv mo mk : Nat} {v : Value} {ns : List Nd} (h : Gr w B g mi mv v mo ns) (hb : Below w.heap.size w wx) (hmk : w.heap.size ≤ mk) : Hid (∀ wy, wx.grownBy wy (some mk) → Gr wy B g mi mv v mo ns) :=
 fun wy hy => h.kept fun k hk => (hy.block k (Nat.lt_of_lt_of_le hk hb.size) (fun e => by cases e; omega)).trans (hb.block k hk)
section
variable {w : World} {B g mi mv mo c : Nat} {v : Value} {a : Option Addr}
end
end Go.Proofs.Ytedldoobmmhloaa
namespace Go.Proofs.Ytedldoobmmhloaa
open Go.RowKit
set_option linter.unusedSimpArgs false
set_option linter.unusedVariables false
theorem fvS_bk {ns : List Nd} {M : List (Int × Bt)} {x : Nv} (hM : ∀ p ∈ M, Bk p.2) (hx : Bk x.v) : ∀ p ∈ fvS ns M x, Bk p.2 := by
 unfold fvS
 intro p hp
 split at hp
 ·exact hM p hp
 ·split at hp
  ·exact hM p hp
  ·rcases List.mem_append.1 hp with hp | hp
   ·exact hM p hp
   ·rw [List.mem_singleton.1 hp]; exact hx
theorem fold_bk {ns : List Nd} : ∀ (l : List Nv) (M : List (Int × Bt)), (∀ p ∈ M, Bk p.2) → (∀ x ∈ l, Bk x.v) → ∀ p ∈ l.foldl (fvS ns) M, Bk p.2
 | [], _, hM, _ => hM
 | x :: xs, M, hM, hl => fold_bk xs _ (fvS_bk hM (hl x (by simp))) (fun y hy => hl y (List.mem_cons_of_mem _ hy))
theorem fvF_bk {ns : List Nd} {l : List Nv} (hl : ∀ x ∈ l, Bk x.v) : ∀ p ∈ fvF ns l, Bk p.2 := fold_bk l [] (fun _ h => nomatch h) hl
theorem evalg {A : Int → Int → Int → List Bt → Bt × Int} (hA : ApF A) {w : World} {B g mi mv mo c : Nat} {v : Value} {ns : List Nd} {a : Option Addr} {l : List Nv} {id : Int} (h : Gr w B g mi mv v mo ns) (hN : Nok ns) (he : Le w a l) (hnm : ∀ x ∈ l, x.nm.size ≤ maxLen) (hl : l.length ≤ 1000) (hbk : ∀ x ∈ l, Bk x.v) (hid : w64 id) :
  Calls Try.prog 19 #[.pointer (some ⟨g, 0, none⟩), .int .i64 id, .slice a l.length c] w fun e w' => e = .returned (.tuple #[.agg #[.int .i64 (vG A ns (fvF ns l) [] id).2.1.w, .int .u64 (vG A ns (fvF ns l) [] id).2.1.lo, .int .u64 (vG A ns (fvF ns l) [] id).2.1.hi], .int .i64 (vG A ns (fvF ns l) [] id).2.2]) ∧ Below w.heap.size w w' :=
 eval_of h he hnm hl (fun wx wb mg mk hb hmk hW => (valg hA hN (gr_of h hb hmk) hW hid (fvF_bk hbk) (fun _ h => nomatch h) (fun p hp => by have := cone_in h.inv hp; omega)).mono fun e w' hh => ⟨hh.1, hh.2.2⟩)
def first (l : List Nv) (s : ByteArray) : Option Bt := (l.find? fun x => decide (x.nm = s)).map (·.v)
theorem fold_get {ns : List Nd} {p : Int} (hp : 1 ≤ p) : ∀ (l : List Nv) (M : List (Int × Bt)), getM (l.foldl (fvS ns) M) p = (getM M p).or ((l.find? fun x => decide (varAt ns x.nm = p)).map (·.v))
 | [], M => by simp
 | x :: xs, M => by
  rw [List.foldl_cons, fold_get hp xs]
  unfold fvS
  by_cases h0 : varAt ns x.nm = 0
  ·have hne : ¬ varAt ns x.nm = p := by omega
   simp [h0, hne]
   rw [List.find?_cons_of_neg (by simp; omega)]
  ·rw [if_neg h0]
   by_cases hk : (getM M (varAt ns x.nm)).isSome = true
   ·rw [if_pos hk]
    by_cases hp2 : varAt ns x.nm = p
    ·rw [hp2] at hk
     obtain ⟨v, hv⟩ := Option.isSome_iff_exists.1 hk
     simp [hv]
    ·rw [List.find?_cons_of_neg (by simpa using hp2)]
   ·rw [if_neg hk, getM_app]
    by_cases hp2 : varAt ns x.nm = p
    ·have hn : getM M p = none := by
      rw [hp2] at hk
      cases h : getM M p with
      | none => rfl
      | some y => rw [h] at hk; exact absurd rfl hk
     rw [List.find?_cons_of_pos (by simpa using hp2)]
     simp [hp2, hn]
    ·rw [List.find?_cons_of_neg (by simpa using hp2)]
     simp [hp2]
theorem find_only {α : Type} {l : List α} {P : α → Bool} {x : α} (hx : x ∈ l) (hP : P x = true) (h : ∀ y ∈ l, P y = true → y = x) : l.find? P = some x := by
 cases e : l.find? P with
 | none => exact absurd hP (by simpa using List.find?_eq_none.1 e x hx)
 | some y => rw [h y (List.mem_of_find?_eq_some e) (List.find?_some e)]
theorem vs_mem {ns : List Nd} {i : Nat} {n : Nd} (hi : ns[i]? = some n) (h2 : n.op = 2) : ((i : Int) + 1) ∈ vsF ns := by
 unfold vsF
 refine List.mem_filterMap.2 ⟨(n, i), ?_, by simp [h2]⟩
 rw [List.mem_mapIdx]
 obtain ⟨hl, he⟩ := List.getElem?_eq_some_iff.1 hi
 exact ⟨i, hl, by rw [he]⟩
theorem vs_var {ns : List Nd} {p : Int} (h : p ∈ vsF ns) : ∃ (i : Nat) (n : Nd), p = (i : Int) + 1 ∧ ns[i]? = some n ∧ n.op = 2 := by
 unfold vsF at h
 obtain ⟨x, hx, he⟩ := List.mem_filterMap.1 h
 rw [List.mem_mapIdx] at hx
 obtain ⟨i, hi, rfl⟩ := hx
 simp only at he
 split at he
 ·rename_i h2
  exact ⟨i, ns[i], (Option.some.inj he).symm, List.getElem?_eq_getElem hi, h2⟩
 ·cases he
theorem cmp_nm {ns : List Nd} {G : List (Int × Bt)} {i : Nat} {n : Nd} (hi : ns[i]? = some n) : (cmpV ns G ((i : Int) + 1)).nm = n.nm := by
 unfold cmpV
 show ((ns[((i : Int) + 1 - 1).toNat]?).map Nd.nm).getD ⟨#[]⟩ = n.nm
 rw [show ((i : Int) + 1 - 1).toNat = i by omega, hi]; rfl
theorem comp_get {ns : List Nd} (hv : Inv ns) {G : List (Int × Bt)} {i : Nat} {n : Nd} (hi : ns[i]? = some n) (h2 : n.op = 2) : getM (fvF ns ((vsF ns).map (cmpV ns G))) ((i : Int) + 1) = some (cmpV ns G ((i : Int) + 1)).v := by
 unfold fvF
 rw [fold_get (by omega)]
 have hf : List.find? (fun x : Nv => decide (varAt ns x.nm = (i : Int) + 1)) ((vsF ns).map (cmpV ns G)) = some (cmpV ns G ((i : Int) + 1)) := by
  refine find_only (List.mem_map.2 ⟨_, vs_mem hi h2, rfl⟩) ?_ ?_
  ·simp only [decide_eq_true_eq]
   exact varAt_some hv hi h2 (cmp_nm hi).symm
  ·intro y hy hP
   obtain ⟨q, hq, rfl⟩ := List.mem_map.1 hy
   obtain ⟨j, m, rfl, hj, hm2⟩ := vs_var hq
   simp only [decide_eq_true_eq] at hP
   rw [varAt_some hv hj hm2 (cmp_nm hj).symm] at hP
   rw [hP]
 rw [hf]
 simp [getM]
theorem comp_fits {ns : List Nd} (hv : Inv ns) {G : List (Int × Bt)} {i : Nat} {n : Nd} (hi : ns[i]? = some n) (h2 : n.op = 2) : fits (fvF ns ((vsF ns).map (cmpV ns G))) ((i : Int) + 1) n.s = true := by
 have hg := comp_get hv (G := G) hi h2
 have hs := hv.sorts n (List.mem_of_getElem? hi)
 have hsA : sAt ns ((i : Int) + 1) = n.s := by unfold sAt; rw [show ((i : Int) + 1 - 1).toNat = i by omega, hi]; rfl
 have hcase : (cmpV ns G ((i : Int) + 1)).v = if fits G ((i : Int) + 1) n.s then (getM G ((i : Int) + 1)).getD zBt else ⟨n.s, 0, 0⟩ := by unfold cmpV; rw [hsA]
 rw [hcase] at hg
 by_cases hfit : fits G ((i : Int) + 1) n.s = true
 ·rw [if_pos hfit] at hg
  have h' := hfit
  unfold fits at h' ⊢
  rw [hg]
  simp only [Bool.and_eq_true] at h' ⊢
  exact ⟨⟨rfl, h'.1.2⟩, h'.2⟩
 ·rw [if_neg hfit] at hg
  have hr : rgt n.s 0 0 = true := by
   unfold rgt
   by_cases h0 : n.s = 0
   ·simp [h0]
   ·have hp : (0 : Int) < 2 ^ n.s.toNat := Int.pow_pos (by decide)
    simp only [h0, if_false, Bool.and_eq_true, decide_eq_true_eq]
    exact ⟨⟨hs.1, hs.2⟩, by simpa using hp⟩
  unfold fits
  rw [hg]
  simp only [Bool.and_eq_true]
  exact ⟨⟨rfl, hr⟩, by simp⟩
end Go.Proofs.Ytedldoobmmhloaa
