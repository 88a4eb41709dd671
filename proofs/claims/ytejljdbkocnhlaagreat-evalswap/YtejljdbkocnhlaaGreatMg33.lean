import Derived.Test.YtejljdbkocnhlaaGreatMg32
import Derived.Test.YtejljdbkocnhlaaGreatMg9
import Derived.Test.YtejljdbkocnhlaaGreatMg20
namespace Go.Proofs.YtejljdbkocnhlaaGreat
set_option maxHeartbeats 12800000
set_option maxRecDepth 100000
open Go.RowKit
set_option linter.unusedSimpArgs false
set_option linter.unusedVariables false
theorem fvS_bk {ns : List Nd} {M : List (Int × Bt)} {x : Nv} (hM : ∀ p ∈ M, Bk p.2) (hx : Bk x.v) : ∀ p ∈ fvS ns M x, Bk p.2 := by
 unfold fvS
 intro p hp
 split at hp
 ·exact hM p hp
 ·split at hp
  ·exact hM p hp
  ·rcases List.mem_append.1 hp with hp | hp
   ·exact hM p hp
   ·rw [List.mem_singleton.1 hp]; exact hx
theorem fold_bk {ns : List Nd} : ∀ (l : List Nv) (M : List (Int × Bt)), (∀ p ∈ M, Bk p.2) → (∀ x ∈ l, Bk x.v) → ∀ p ∈ l.foldl (fvS ns) M, Bk p.2
 | [], _, hM, _ => hM
 | x :: xs, M, hM, hl => fold_bk xs _ (fvS_bk hM (hl x (by simp))) (fun y hy => hl y (List.mem_cons_of_mem _ hy))
theorem fvF_bk {ns : List Nd} {l : List Nv} (hl : ∀ x ∈ l, Bk x.v) : ∀ p ∈ fvF ns l, Bk p.2 := fold_bk l [] (fun _ h => nomatch h) hl
theorem evalg {A : Int → Int → Int → List Bt → Bt × Int} (hA : ApF A) {w : World} {B g mi mv mo c : Nat} {v : Value} {ns : List Nd} {a : Option Addr} {l : List Nv} {id : Int} (h : Gr w B g mi mv v mo ns) (hN : Nok ns) (he : Le w a l) (hnm : ∀ x ∈ l, x.nm.size ≤ maxLen) (hl : l.length ≤ 1000) (hbk : ∀ x ∈ l, Bk x.v) (hid : w64 id) :
  Rt 9 #[.pointer (some ⟨g, 0, none⟩), .int .i64 id, .slice a l.length c] w (.tuple #[.agg #[.int .i64 (vG A ns (fvF ns l) [] id).2.1.w, .int .u64 (vG A ns (fvF ns l) [] id).2.1.lo, .int .u64 (vG A ns (fvF ns l) [] id).2.1.hi], .int .i64 (vG A ns (fvF ns l) [] id).2.2]) :=
 eval_of h he hnm hl (fun wx wb mg mk hb hmk hW => (valg hA hN (gr_of h hb hmk) hW hid (fvF_bk hbk) (fun _ h => nomatch h) (fun p hp => by have := cone_in h.inv hp; omega)).mono fun e w' hh => ⟨hh.1, hh.2.2⟩)
def first (l : List Nv) (s : ByteArray) : Option Bt := (l.find? fun x => decide (x.nm = s)).map (·.v)
theorem fold_get {ns : List Nd} {p : Int} (hp : 1 ≤ p) : ∀ (l : List Nv) (M : List (Int × Bt)), getM (l.foldl (fvS ns) M) p = (getM M p).or ((l.find? fun x => decide (varAt ns x.nm = p)).map (·.v))
 | [], M => by simp
 | x :: xs, M => by
  rw [List.foldl_cons, fold_get hp xs]
  unfold fvS
  by_cases h0 : varAt ns x.nm = 0
  ·have hne : ¬ varAt ns x.nm = p := by omega
   simp [h0, hne]
   rw [List.find?_cons_of_neg (by simp; omega)]
  ·rw [if_neg h0]
   by_cases hk : (getM M (varAt ns x.nm)).isSome = true
   ·rw [if_pos hk]
    by_cases hp2 : varAt ns x.nm = p
    ·rw [hp2] at hk
     obtain ⟨v, hv⟩ := Option.isSome_iff_exists.1 hk
     simp [hv]
    ·rw [List.find?_cons_of_neg (by simpa using hp2)]
   ·rw [if_neg hk, getM_app]
    by_cases hp2 : varAt ns x.nm = p
    ·have hn : getM M p = none := by
      rw [hp2] at hk
      cases h : getM M p with
      | none => rfl
      | some y => rw [h] at hk; exact absurd rfl hk
     rw [List.find?_cons_of_pos (by simpa using hp2)]
     simp [hp2, hn]
    ·rw [List.find?_cons_of_neg (by simpa using hp2)]
     simp [hp2]
theorem find_only {α : Type} {l : List α} {P : α → Bool} {x : α} (hx : x ∈ l) (hP : P x = true) (h : ∀ y ∈ l, P y = true → y = x) : l.find? P = some x := by
 cases e : l.find? P with
 | none => exact absurd hP (by simpa using List.find?_eq_none.1 e x hx)
 | some y => rw [h y (List.mem_of_find?_eq_some e) (List.find?_some e)]
theorem vs_mem {ns : List Nd} {i : Nat} {n : Nd} (hi : ns[i]? = some n) (h2 : n.op = 2) : ((i : Int) + 1) ∈ vsF ns := by
 unfold vsF
 refine List.mem_filterMap.2 ⟨(n, i), ?_, by simp [h2]⟩
 rw [List.mem_mapIdx]
 obtain ⟨hl, he⟩ := List.getElem?_eq_some_iff.1 hi
 exact ⟨i, hl, by rw [he]⟩
theorem vs_var {ns : List Nd} {p : Int} (h : p ∈ vsF ns) : ∃ (i : Nat) (n : Nd), p = (i : Int) + 1 ∧ ns[i]? = some n ∧ n.op = 2 := by
 unfold vsF at h
 obtain ⟨x, hx, he⟩ := List.mem_filterMap.1 h
 rw [List.mem_mapIdx] at hx
 obtain ⟨i, hi, rfl⟩ := hx
 simp only at he
 split at he
 ·rename_i h2
  exact ⟨i, ns[i], (Option.some.inj he).symm, List.getElem?_eq_getElem hi, h2⟩
 ·cases he
theorem cmp_nm {ns : List Nd} {G : List (Int × Bt)} {i : Nat} {n : Nd} (hi : ns[i]? = some n) : (cmpV ns G ((i : Int) + 1)).nm = n.nm := by
 unfold cmpV
 show ((ns[((i : Int) + 1 - 1).toNat]?).map Nd.nm).getD ⟨#[]⟩ = n.nm
 rw [show ((i : Int) + 1 - 1).toNat = i by omega, hi]; rfl
theorem comp_get {ns : List Nd} (hv : Inv ns) {G : List (Int × Bt)} {i : Nat} {n : Nd} (hi : ns[i]? = some n) (h2 : n.op = 2) : getM (fvF ns ((vsF ns).map (cmpV ns G))) ((i : Int) + 1) = some (cmpV ns G ((i : Int) + 1)).v := by
 unfold fvF
 rw [fold_get (by omega)]
 have hf : List.find? (fun x : Nv => decide (varAt ns x.nm = (i : Int) + 1)) ((vsF ns).map (cmpV ns G)) = some (cmpV ns G ((i : Int) + 1)) := by
  refine find_only (List.mem_map.2 ⟨_, vs_mem hi h2, rfl⟩) ?_ ?_
  ·simp only [decide_eq_true_eq]
   exact varAt_some hv hi h2 (cmp_nm hi).symm
  ·intro y hy hP
   obtain ⟨q, hq, rfl⟩ := List.mem_map.1 hy
   obtain ⟨j, m, rfl, hj, hm2⟩ := vs_var hq
   simp only [decide_eq_true_eq] at hP
   rw [varAt_some hv hj hm2 (cmp_nm hj).symm] at hP
   rw [hP]
 rw [hf]
 simp [getM]
theorem comp_fits {ns : List Nd} (hv : Inv ns) {G : List (Int × Bt)} {i : Nat} {n : Nd} (hi : ns[i]? = some n) (h2 : n.op = 2) : fits (fvF ns ((vsF ns).map (cmpV ns G))) ((i : Int) + 1) n.s = true := by
 have hg := comp_get hv (G := G) hi h2
 have hs := hv.sorts n (List.mem_of_getElem? hi)
 have hsA : sAt ns ((i : Int) + 1) = n.s := by unfold sAt; rw [show ((i : Int) + 1 - 1).toNat = i by omega, hi]; rfl
 have hcase : (cmpV ns G ((i : Int) + 1)).v = if fits G ((i : Int) + 1) n.s then (getM G ((i : Int) + 1)).getD zBt else ⟨n.s, 0, 0⟩ := by unfold cmpV; rw [hsA]
 rw [hcase] at hg
 by_cases hfit : fits G ((i : Int) + 1) n.s = true
 ·rw [if_pos hfit] at hg
  have h' := hfit
  unfold fits at h' ⊢
  rw [hg]
  simp only [Bool.and_eq_true] at h' ⊢
  exact ⟨⟨rfl, h'.1.2⟩, h'.2⟩
 ·rw [if_neg hfit] at hg
  have hr : rgt n.s 0 0 = true := by
   unfold rgt
   by_cases h0 : n.s = 0
   ·simp [h0]
   ·have hp : (0 : Int) < 2 ^ n.s.toNat := Int.pow_pos (by decide)
    simp only [h0, if_false, Bool.and_eq_true, decide_eq_true_eq]
    exact ⟨⟨hs.1, hs.2⟩, by simpa using hp⟩
  unfold fits
  rw [hg]
  simp only [Bool.and_eq_true]
  exact ⟨⟨rfl, hr⟩, by simp⟩
structure Gd (ns : List Nd) : Prop where
 nok : Nok ns
 sok : Sok ns
 upo : Upo ns
theorem gd_nil : Gd [] := ⟨⟨(fun _ h => nomatch h), (fun _ h => nomatch h), (fun _ h => nomatch h)⟩, ⟨(fun _ h => nomatch h), (fun _ h => nomatch h)⟩, (fun _ h => nomatch h)⟩
theorem prt_used {N : Nat} {n : Nd} (hp : prt N n = true) : ∀ q ∈ used n, hasB N q = true := by
 have h3 := ari_le n.op
 rw [prt_eq rfl] at hp
 simp only [Bool.and_eq_true, decide_eq_true_eq] at hp
 obtain ⟨⟨⟨⟨⟨h0, ha⟩, hb⟩, hc⟩, -⟩, -⟩ := hp
 unfold used
 have hx : ari n.op = 0 ∨ ari n.op = 1 ∨ ari n.op = 2 ∨ ari n.op = 3 := by omega
 rcases hx with e | e | e | e
 ·rw [e]; intro q hq; cases hq
 ·rw [e] at ha ⊢
  have ha' : hasB N n.a = true := by rw [opB, if_pos (by decide)] at ha; exact ha
  intro q hq
  have hq' : q ∈ [n.a] := hq
  rw [List.mem_singleton.1 hq']; exact ha'
 ·rw [e] at ha hb ⊢
  have ha' : hasB N n.a = true := by rw [opB, if_pos (by decide)] at ha; exact ha
  have hb' : hasB N n.b = true := by rw [opB, if_pos (by decide)] at hb; exact hb
  intro q hq
  have hq' : q ∈ [n.a, n.b] := hq
  rcases List.mem_cons.1 hq' with rfl | hq'
  ·exact ha'
  ·rw [List.mem_singleton.1 hq']; exact hb'
 ·rw [e] at ha hb hc ⊢
  have ha' : hasB N n.a = true := by rw [opB, if_pos (by decide)] at ha; exact ha
  have hb' : hasB N n.b = true := by rw [opB, if_pos (by decide)] at hb; exact hb
  have hc' : hasB N n.c = true := by rw [opB, if_pos (by decide)] at hc; exact hc
  intro q hq
  have hq' : q ∈ [n.a, n.b, n.c] := hq
  rcases List.mem_cons.1 hq' with rfl | hq'
  ·exact ha'
  ·rcases List.mem_cons.1 hq' with rfl | hq'
   ·exact hb'
   ·rw [List.mem_singleton.1 hq']; exact hc'
theorem gd_snoc {ns : List Nd} {n : Nd} {s : Int} (hv : Inv ns) (hg : Gd ns) (ho : Ok n) (hs : srtOf ns n = (s, 0)) : Gd (ns ++ [n.wi s]) := by
 have hp : prt ns.length n = true := by
  cases e : prt ns.length n
  ·unfold srtOf at hs; rw [if_pos e] at hs; cases hs
  ·rfl
 have hs' := hs
 unfold srtOf at hs'
 rw [if_neg (by rw [hp]; decide)] at hs'
 have hu := prt_used hp
 have hun : used (n.wi s) = used n := rfl
 refine ⟨⟨?_, ?_, ?_⟩, ⟨?_, ?_⟩, ?_⟩
 ·intro m hm
  rcases List.mem_append.1 hm with hm | hm
  ·exact hg.nok.vals m hm
  ·rw [List.mem_singleton.1 hm]; exact ⟨ho.fi.l0, ho.fi.l1, ho.fi.h0, ho.fi.h1⟩
 ·intro m hm
  rcases List.mem_append.1 hm with hm | hm
  ·exact hg.nok.ps m hm
  ·rw [List.mem_singleton.1 hm]
   have := ho.p
   unfold w64 at this
   show n.p < _
   omega
 ·intro m hm
  rcases List.mem_append.1 hm with hm | hm
  ·exact hg.nok.ars m hm
  ·rw [List.mem_singleton.1 hm]
   show n.op = 1 ∨ n.op = 2 ∨ (1 ≤ ari n.op ∧ ari n.op ≤ 3)
   by_cases h1 : n.op = 1
   ·exact Or.inl h1
   ·by_cases h2 : n.op = 2
    ·exact Or.inr (Or.inl h2)
    ·rw [if_neg h1, if_neg h2] at hs'
     have h3 := ari_le n.op
     refine Or.inr (Or.inr ⟨?_, by omega⟩)
     apply Classical.byContradiction
     intro hc
     unfold srtF at hs'
     rw [if_pos (by omega)] at hs'
     cases hs'
 ·intro m hm h1
  rcases List.mem_append.1 hm with hm | hm
  ·exact hg.sok.cst m hm h1
  ·rw [List.mem_singleton.1 hm] at h1 ⊢
   have h1' : n.op = 1 := h1
   rw [if_pos h1'] at hs'
   split at hs'
   ·rename_i hc
    simp only [Bool.and_eq_true, decide_eq_true_eq] at hc
    have e : n.s = s := (Prod.mk.inj hs').1
    show sof ⟨n.w, n.lo, n.hi⟩ = s
    unfold sof
    rw [if_pos hc.1.1.1, ← e]; exact hc.1.1.2
   ·cases hs'
 ·intro m hm h1 h2
  rcases List.mem_append.1 hm with hm | hm
  ·have e : (used m).map (sAt (ns ++ [n.wi s])) = (used m).map (sAt ns) := by
    refine List.map_congr_left fun q hq => sAt_more ?_
    obtain ⟨i, hi, rfl⟩ := List.getElem_of_mem hm
    have hk := hv.kids i _ (List.getElem?_eq_getElem hi)
    have hq1 := hg.upo _ (List.getElem_mem hi) q hq
    have hkid := used_kid hq
    simp [hasB]
    omega
   rw [e]; exact hg.sok.ops m hm h1 h2
  ·rw [List.mem_singleton.1 hm] at h1 h2 ⊢
   have h1' : ¬ n.op = 1 := h1
   have h2' : ¬ n.op = 2 := h2
   rw [if_neg h1', if_neg h2'] at hs'
   show srtF n.op n.p n.q ((used n).map (sAt (ns ++ [n.wi s]))) = (s, 0)
   have e : (used n).map (sAt (ns ++ [n.wi s])) = oss ns n := oss_more hp
   rw [e]; exact hs'
 ·intro m hm q hq
  rcases List.mem_append.1 hm with hm | hm
  ·exact hg.upo m hm q hq
  ·rw [List.mem_singleton.1 hm, hun] at hq
   have := hu q hq
   simp [hasB] at this
   exact this.1
theorem gd_mkd {mo : Nat} {ns ns' : List Nd} {n : Nd} {id er : Int} (hv : Inv ns) (hg : Gd ns) (ho : Ok n) (hM : Mkd mo ns n id er ns') : Gd ns' := by
 cases hM with
 | err _ _ => exact hg
 | old _ _ => exact hg
 | full _ _ _ => exact hg
 | new hs _ _ => exact gd_snoc hv hg ho hs
structure Md (ns : List Nd) : Prop where
 gd : Gd ns
 nm : ∀ n ∈ ns, n.nm.size ≤ 100
 po : ∀ n ∈ ns, prt ns.length n = true ∧ Ok n
theorem md_mkd {mo : Nat} {ns ns' : List Nd} {n : Nd} {id er : Int} (hv : Inv ns) (h : Md ns) (ho : Ok n) (hn : n.nm.size ≤ 100) (hM : Mkd mo ns n id er ns') : Md ns' ∧ ns'.length ≤ ns.length + 1 := by
 refine ⟨⟨gd_mkd hv h.gd ho hM, ?_, ?_⟩, ?_⟩
 ·cases hM with
  | err _ _ => exact h.nm
  | old _ _ => exact h.nm
  | full _ _ _ => exact h.nm
  | new _ _ _ =>
   intro m hm
   rcases List.mem_append.1 hm with hm | hm
   ·exact h.nm m hm
   ·rw [List.mem_singleton.1 hm]; exact hn
 ·cases hM with
  | err _ _ => exact h.po
  | old _ _ => exact h.po
  | full _ _ _ => exact h.po
  | @new s hs hno _ =>
   have hp : prt ns.length n = true := by
    cases e : prt ns.length n
    ·unfold srtOf at hs; rw [if_pos e] at hs; cases hs
    ·rfl
   intro m hm
   rw [List.length_append]
   rcases List.mem_append.1 hm with hm | hm
   ·exact ⟨prt_more (by omega) (h.po m hm).1, (h.po m hm).2⟩
   ·rw [List.mem_singleton.1 hm]
    have hs2 := (inv_snoc hv hs hno).sorts (n.wi s) (by simp)
    exact ⟨prt_more (n := n.wi s) (N := ns.length) (by omega) hp, ⟨(by obtain ⟨f1, f2, f3, f4, f5⟩ := ho.fi; exact ⟨f1, f2, f3, f4, f5⟩), ho.op, ⟨by have : 0 ≤ s := hs2.1; show _ ≤ s; omega, by have : s ≤ 128 := hs2.2; show s ≤ _; omega⟩, ho.a, ho.b, ho.c, ho.p, ho.q, ho.w⟩⟩
 ·cases hM <;> simp
theorem made_any {a : Option Addr} {c : Nat} {l : List Nd} (w : World) (hL : La w a l) (hok : ∀ n ∈ l, Ok n) (hmx : l.length ≤ maxLen) :
  Calls Tryz.prog 8 #[.slice a l.length c] w fun e w' => (e = .returned (.tuple #[.pointer none, .pointer none, .bool false]) ∧ Below w.heap.size w w') ∨ ∃ B D v u ns, e = .returned (.tuple #[.pointer (some ⟨B + 2, 0, none⟩), .pointer (some ⟨D, 0, none⟩), .bool true]) ∧ Tg w w' B D v u 4096 ns ∧ Md ns ∧ ns.length ≤ 120 := by
 obtain ⟨n, hn⟩ : ∃ n, n = l.length := ⟨_, rfl⟩
 have hmxI : (n : Int) ≤ 9223372036854775807 := by unfold maxLen at hmx; omega
 rw [← hn]
 by_cases h120 : n ≤ 120
 ·have HN : Hid _ := hn
  have HNW : Hid (∀ wx, Calls Tryz.prog 23 #[.int .i64 4096] wx fun e w' => e = .returned (.pointer (some ⟨wx.heap.size + 2, 0, none⟩)) ∧ Below wx.heap.size wx w' ∧ Gr w' wx.heap.size (wx.heap.size + 2) wx.heap.size (wx.heap.size + 1) (.slice none 0 0) 4096 []) := fun wx => gnew_any 4096 wx
  have HRW : Hid (∀ wx, Calls Tryz.prog 24 #[.int .i64 4096] wx fun e w' => e = .returned (.pointer (some ⟨wx.heap.size, 0, none⟩)) ∧ Below wx.heap.size wx w' ∧ Rg w' wx.heap.size wx.heap.size (.slice none 0 0) 4096 []) := fun wx => rnew_any 4096 wx
  have HLa : Hid _ := hL
  have HOK : Hid _ := hok
  have h120I : (n : Int) ≤ 120 := by omega
  clear hn hL hok hmx
  have hnx : ∀ x : Int, (x != x) = false := fun x => by simp
  go_enter Tryz.func8, Tryz.ntmps8
  go_wp2_with fail
  refine (HNW.out _).mono ?_
  rintro e wb ⟨rfl, hbb, hG⟩
  have HG : Hid _ := hG
  have hgl := hG.lt
  have HBB : Hid _ := hbb
  clear hG hbb
  go_wp2_with fail
  refine (HRW.out _).mono ?_
  rintro e wc ⟨rfl, hbc, hR⟩
  have HT : Hid (Tg w wc w.heap.size wb.heap.size (.slice none 0 0) (.slice none 0 0) 4096 []) :=
   ⟨HG.out.below hbc, hR, by simp [Value.ownBlock], (fun q hq => by simp [Value.ownBlock] at hq), hgl, Nat.le_refl _, HBB.out.trans (hbc.mono HBB.out.size)⟩
  obtain ⟨B, hB⟩ : ∃ B, B = w.heap.size := ⟨_, rfl⟩
  obtain ⟨D, hD⟩ : ∃ D, D = wb.heap.size := ⟨_, rfl⟩
  rw [← hD] at HT
  rw [← hD]
  rw [show Hid (Tg w wc w.heap.size D (.slice none 0 0) (.slice none 0 0) 4096 []) = Hid (Tg w wc B D (.slice none 0 0) (.slice none 0 0) 4096 []) by rw [hB]] at HT
  have HBE : Hid _ := hB
  clear hR hbc HG HNW HRW hgl hD HBB
  go_wp2_with fail
  rw [← HBE.out]
  clear HBE hB
  go_loopw [7] (fun i wr => ∃ k : Nat, k ≤ n ∧ i = .int .i64 (k : Int) ∧ ∃ v u ns, Tg w wr B D v u 4096 ns ∧ Md ns ∧ ns.length ≤ k) (fun i wr => n - (intOf i).toNat)
  case atStart => exact ⟨0, Nat.zero_le _, rfl, _, _, _, HT.out, ⟨gd_nil, (fun _ h => nomatch h), (fun _ h => nomatch h)⟩, Nat.le_refl _⟩
  case round =>
   clear HT
   obtain ⟨k, hk, rfl, v, u, ns, hT, hMd, hnk⟩ := hrel
   have HT : Hid _ := hT
   have HMD : Hid _ := hMd
   clear hT hMd
   by_cases hlt : k < n
   ·obtain ⟨m, hm⟩ : ∃ m, l[k]? = some m := ⟨_, List.getElem?_eq_getElem (by rw [← HN.out]; exact hlt)⟩
    obtain ⟨gl, o, rfl, hgl, hLn⟩ : ∃ gl o, a = some ⟨gl, o, none⟩ ∧ gl < w.heap.size ∧ Ln w gl o l := by
     rcases HLa.out with e | h
     ·rw [e] at hm; simp at hm
     ·exact h
    have hc := hLn k m hm
    have HC : Hid _ := hc
    have hbl := HT.out.bel
    have d10 : wr.cell? ⟨gl, o + k * 11 + 10, none⟩ = some (.string m.nm) := bel_cell hbl hgl (hc 10 _ rfl)
    have hlt' : (k : Int) < (n : Int) := by omega
    by_cases hnm : m.nm.size ≤ 100
    ·have hnmI : (m.nm.size : Int) ≤ 100 := by omega
     have d0 : wr.cell? ⟨gl, o + k * 11, none⟩ = some (.int .i64 m.op) := bel_cell hbl hgl (hc 0 _ rfl)
     have d1 : wr.cell? ⟨gl, o + k * 11 + 1, none⟩ = some (.int .i64 m.s) := bel_cell hbl hgl (hc 1 _ rfl)
     have d2 : wr.cell? ⟨gl, o + k * 11 + 2, none⟩ = some (.int .i64 m.a) := bel_cell hbl hgl (hc 2 _ rfl)
     have d3 : wr.cell? ⟨gl, o + k * 11 + 3, none⟩ = some (.int .i64 m.b) := bel_cell hbl hgl (hc 3 _ rfl)
     have d4 : wr.cell? ⟨gl, o + k * 11 + 4, none⟩ = some (.int .i64 m.c) := bel_cell hbl hgl (hc 4 _ rfl)
     have d5 : wr.cell? ⟨gl, o + k * 11 + 5, none⟩ = some (.int .i64 m.p) := bel_cell hbl hgl (hc 5 _ rfl)
     have d6 : wr.cell? ⟨gl, o + k * 11 + 6, none⟩ = some (.int .i64 m.q) := bel_cell hbl hgl (hc 6 _ rfl)
     have d7 : wr.cell? ⟨gl, o + k * 11 + 7, none⟩ = some (.int .i64 m.w) := bel_cell hbl hgl (hc 7 _ rfl)
     have d8 : wr.cell? ⟨gl, o + k * 11 + 8, none⟩ = some (.int .u64 m.lo) := bel_cell hbl hgl (hc 8 _ rfl)
     have d9 : wr.cell? ⟨gl, o + k * 11 + 9, none⟩ = some (.int .u64 m.hi) := bel_cell hbl hgl (hc 9 _ rfl)
     obtain ⟨id', er, ns', hM⟩ := mkd_any 4096 ns m HT.out.gr.room
     have hOm := HOK.out m (List.mem_of_getElem? hm)
     have HMK : Hid _ := mk_any HT.out.gr hOm hM (by have := HT.out.gr.lt; omega)
     have HINV : Hid _ := HT.out.gr.inv
     obtain ⟨hMd', hln'⟩ := md_mkd HINV.out HMD.out hOm hnm hM
     have HMD' : Hid _ := hMd'
     have HMM : Hid _ := hM
     have HOM : Hid _ := hOm
     have HUB : Hid (∀ q, u.ownBlock = some q → D ≤ q) := fun q hq => (HT.out.rg.row.lt q hq).1
     clear hc hLn hm hM hOm hMd'
     go_wp2_with fail
     refine Calls.mono HMK.out ?_
     rintro e w2 ⟨rfl, v', hG', hC, hv'⟩
     obtain ⟨hR2, hf2, ho2, hb2⟩ := HT.out.first hG' hC hv'
     have HRM : Hid _ := rmk_any hR2 HINV.out HOM.out HMM.out (by have := hR2.lt; omega)
     have HG2 : Hid _ := hG'
     have HF2 : Hid _ := hf2
     have HO2 : Hid _ := ho2
     have hbd := HT.out.bd
     have hlo := HT.out.lo
     clear hG' hC hv' hR2 hf2 ho2 HMK d0 d1 d2 d3 d4 d5 d6 d7 d8 d9 d10 hbl
     have e0 : w2.cell? ⟨gl, o + k * 11, none⟩ = some (.int .i64 m.op) := bel_cell hb2 hgl (HC.out 0 _ rfl)
     have e1 : w2.cell? ⟨gl, o + k * 11 + 1, none⟩ = some (.int .i64 m.s) := bel_cell hb2 hgl (HC.out 1 _ rfl)
     have e2 : w2.cell? ⟨gl, o + k * 11 + 2, none⟩ = some (.int .i64 m.a) := bel_cell hb2 hgl (HC.out 2 _ rfl)
     have e3 : w2.cell? ⟨gl, o + k * 11 + 3, none⟩ = some (.int .i64 m.b) := bel_cell hb2 hgl (HC.out 3 _ rfl)
     have e4 : w2.cell? ⟨gl, o + k * 11 + 4, none⟩ = some (.int .i64 m.c) := bel_cell hb2 hgl (HC.out 4 _ rfl)
     have e5 : w2.cell? ⟨gl, o + k * 11 + 5, none⟩ = some (.int .i64 m.p) := bel_cell hb2 hgl (HC.out 5 _ rfl)
     have e6 : w2.cell? ⟨gl, o + k * 11 + 6, none⟩ = some (.int .i64 m.q) := bel_cell hb2 hgl (HC.out 6 _ rfl)
     have e7 : w2.cell? ⟨gl, o + k * 11 + 7, none⟩ = some (.int .i64 m.w) := bel_cell hb2 hgl (HC.out 7 _ rfl)
     have e8 : w2.cell? ⟨gl, o + k * 11 + 8, none⟩ = some (.int .u64 m.lo) := bel_cell hb2 hgl (HC.out 8 _ rfl)
     have e9 : w2.cell? ⟨gl, o + k * 11 + 9, none⟩ = some (.int .u64 m.hi) := bel_cell hb2 hgl (HC.out 9 _ rfl)
     have e10 : w2.cell? ⟨gl, o + k * 11 + 10, none⟩ = some (.string m.nm) := bel_cell hb2 hgl (HC.out 10 _ rfl)
     go_wp2_with fail
     refine Calls.mono HRM.out ?_
     rintro e w3 ⟨rfl, u', hR3, hC3, hu'⟩
     have hT3 : Tg w w3 B D v' u' 4096 ns' := Tg.second (ns := ns) HG2.out hR3 hC3 hu' HF2.out HO2.out hbd hlo hb2 HUB.out
     have HT3 : Hid _ := hT3
     clear hT3 hR3 hC3 hu' HRM HG2 HF2 HO2 HUB HT e0 e1 e2 e3 e4 e5 e6 e7 e8 e9 e10 hb2
     have n1 := hnx id'
     go_wp2_with fail
     exact ⟨⟨k + 1, by omega, by go_num, _, _, _, HT3.out, HMD'.out, by omega⟩, by simp [intOf]; omega⟩
    ·have hnmI : (100 : Int) < (m.nm.size : Int) := by omega
     clear hc hLn hm
     go_wp2_with fail
     go_ret3
     exact Or.inl ⟨rfl, HT.out.bel⟩
   ·obtain rfl : k = n := by omega
    have hlt' : ¬ (k : Int) < (k : Int) := by omega
    go_wp2_with fail
    go_ret3
    exact Or.inr ⟨B, D, rfl, v, u, ns, HT.out, HMD.out, by omega⟩
 ·have h120I : (120 : Int) < (n : Int) := by omega
  clear hL hok hmx hn
  go_enter Tryz.func8, Tryz.ntmps8
  go_wp2_with fail
  go_ret3
  exact Or.inl ⟨rfl, Below.refl _ _⟩
theorem m123 : M3 ∉ [N1, N2] := by
 intro h
 rcases List.mem_cons.1 h with h | h
 ·simp [N1, M3] at h
 ·have := List.mem_singleton.1 h; simp [N2, M3] at this
theorem kM3 : ∃ kl, keyOf Tryz.prog 53 M3.val = some kl := by
 refine kn_of ?_ ?_ ?_ ?_ ?_ ?_ ?_ ?_ ?_ ?_ ?_ ?_ ?_ <;> first | decide | (unfold w64; decide)
theorem sm3 : srtOf [N1, N2] (⟨29, 0, 1, 2, 0, 0, 0, 0, 0, 0, ⟨#[]⟩⟩ : Nd) = (0, 0) := by decide
theorem cmK : (vsF K3).map (cmpV K3 (fvF K3 [])) = [⟨⟨#[120]⟩, ⟨4, 0, 0⟩⟩] := by rfl
theorem ck {w : World} {B g mi mv mo : Nat} {v : Value} (h : Gr w B g mi mv v mo K3) :
  Calls Tryz.prog 13 #[.pointer (some ⟨g, 0, none⟩), .slice none 0 0] w fun e w' => ∃ r cap, e = .returned (.slice (some ⟨r, 0, none⟩) 1 cap) ∧ Lv w' r 0 [⟨⟨#[120]⟩, ⟨4, 0, 0⟩⟩] ∧ r < w'.heap.size ∧ Below w.heap.size w w' := by
 refine (comp_any (l := []) (c := 0) h (by decide) (Or.inl rfl) (fun x hx => nomatch hx) (by decide) (fun p hp => nomatch hp)).mono ?_
 rintro e w' ⟨u, rfl, hN, hb⟩
 rw [cmK] at hN
 rcases hN.2 with ⟨-, h0⟩ | ⟨r, cap, cur, rfl, h1, h2, h3, h4, h5, h6⟩
 ·cases h0
 ·refine ⟨r, cap, rfl, fun j x hj t u hu => ?_, (Array.getElem?_eq_some_iff.1 h2).1, hb⟩
  have hc := World.ownsRow.cells hN (g := r) rfl
  match j, hj with
  | 0, hj =>
   obtain rfl := Option.some.inj hj
   have := hc t u (by
    rw [show [(⟨⟨#[120]⟩, ⟨4, 0, 0⟩⟩ : Nv)].flatMap Nv.cs = Nv.cs ⟨⟨#[120]⟩, ⟨4, 0, 0⟩⟩ by simp]; exact hu)
   rw [show ((⟨r, 0, none⟩ : Addr).add t) = ⟨r, 0 + 0 * 4 + t, none⟩ by simp only [Addr.add]; split <;> simp_all] at this
   exact this
  | k + 1, hj => simp at hj
theorem allr2 {w : World} {b : Nat} {u : Value} (h : AllR w b u [b9, b2] 0) : ∃ r cap, u = .slice (some ⟨r, 0, none⟩) 2 cap := by
 unfold AllR at h
 rw [if_pos rfl] at h
 rcases h.2 with ⟨-, h0⟩ | ⟨r, cap, cur, rfl, _⟩
 ·cases h0
 ·exact ⟨r, cap, rfl⟩
theorem eqb (a b c : Int) (w : World) : (binOp .eql 34 (.agg #[.int .i64 a, .int .u64 b, .int .u64 c]) (.agg #[.int .i64 a, .int .u64 b, .int .u64 c])).run Tryz.prog w = .ok (.bool true) w := by simp [go_sem]
theorem lb9 (j t : Nat) (u : Value) {x : Bt} (hx : [(⟨0, 1, 0⟩ : Bt), ⟨2, 3, 0⟩, ⟨2, 0, 0⟩][j]? = some x) (hu : x.cs[t]? = some u) : (#[Value.int .i64 0, .int .u64 1, .int .u64 0, .int .i64 2, .int .u64 3, .int .u64 0, .int .i64 2, .int .u64 0, .int .u64 0])[0 + j * 3 + t]? = some u := by
 have hj : j = 0 ∨ j = 1 ∨ j = 2 := by have := (List.getElem?_eq_some_iff.1 hx).1; simp at this; omega
 have ht : t = 0 ∨ t = 1 ∨ t = 2 := by have := (List.getElem?_eq_some_iff.1 hu).1; simp [Bt.cs] at this; omega
 rcases hj with rfl | rfl | rfl <;> obtain rfl := Option.some.inj hx <;> rcases ht with rfl | rfl | rfl <;> exact hu
theorem known4 (w : World) :
  Rt 7 #[] w (.bool true) := by
 go_enter Tryz.func7, Tryz.ntmps7
 go_wp2_with fail
 refine (gnew_any 9 _).mono ?_
 rintro e w1 ⟨rfl, hb1, hG1⟩
 have HG1 : Hid _ := hG1
 clear hG1
 go_wp2_with fail
 obtain ⟨k1, hk1⟩ := kN1
 refine (mk_new (n := (⟨2, 4, 0, 0, 0, 0, 0, 0, 0, 0, ⟨#[120]⟩⟩ : Nd)) (s := 4) HG1.out (fiOf rfl rfl (by decide)) so1 (by simp) hk1 (by decide) hb1.size).mono ?_
 rintro e w2 ⟨rfl, v2, hG2, hC2, -⟩
 have hb2 : Below w.heap.size w w2 := hb1.trans (hC2.low HG1.out hb1.size)
 have HG2 : Hid (Gr w2 w.heap.size (w.heap.size + 2) w.heap.size (w.heap.size + 1) v2 (roomOf 9) [N1]) := hG2
 clear hG2 hC2 hk1
 go_wp2_with fail
 obtain ⟨k2, hk2⟩ := kN2
 refine (mk_new (n := (⟨18, 0, 1, 1, 0, 0, 0, 0, 0, 0, ⟨#[]⟩⟩ : Nd)) (s := 4) HG2.out (fiOf rfl rfl (by decide)) so2 n12 hk2 (by decide) hb2.size).mono ?_
 rintro e w3 ⟨rfl, v3, hG3, hC3, -⟩
 have hb3 : Below w.heap.size w w3 := hb2.trans (hC3.low HG2.out hb2.size)
 have HG3 : Hid (Gr w3 w.heap.size (w.heap.size + 2) w.heap.size (w.heap.size + 1) v3 (roomOf 9) [N1, N2]) := hG3
 clear hG3 hC3 hk2
 go_wp2_with fail
 obtain ⟨k3, hk3⟩ := kM3
 refine (mk_new (n := (⟨29, 0, 1, 2, 0, 0, 0, 0, 0, 0, ⟨#[]⟩⟩ : Nd)) (s := 0) HG3.out (fiOf rfl rfl (by decide)) sm3 m123 hk3 (by decide) hb3.size).mono ?_
 rintro e w4 ⟨rfl, v4, hG4, hC4, -⟩
 have hb4 : Below w.heap.size w w4 := hb3.trans (hC4.low HG3.out hb3.size)
 have HG4 : Hid (Gr w4 w.heap.size (w.heap.size + 2) w.heap.size (w.heap.size + 1) v4 (roomOf 9) K3) := hG4
 have HLE : Hid (Le (w4.alloc (.cells #[.string ⟨#[120]⟩, .int .i64 4, .int .u64 9, .int .u64 0] 60)) (some ⟨w4.heap.size, 0, none⟩) [Ex]) := Or.inr ⟨w4.heap.size, 0, rfl, by rw [size_alloc']; omega, fun j x hj t u hu => by
  match j, hj with
  | 0, hj =>
   obtain rfl := Option.some.inj hj
   rw [show 0 + 0 * 4 + t = t by omega]
   exact cell_of (heap_alloc_new w4 _) t (by simpa [Ex, Nv.cs, b9] using hu)
  | k + 1, hj => simp at hj⟩
 clear hG4 hC4 hk3
 have hs4 := hb4.size
 obtain ⟨w5, hw5⟩ : ∃ w5, w5 = w4.alloc (.cells #[.string ⟨#[120]⟩, .int .i64 4, .int .u64 9, .int .u64 0] 60) := ⟨_, rfl⟩
 have hb5 : Below w.heap.size w w5 := by rw [hw5]; exact hb4.alloc hs4 _
 have HG5 : Hid (Gr w5 w.heap.size (w.heap.size + 2) w.heap.size (w.heap.size + 1) v4 (roomOf 9) K3) := by rw [hw5]; exact HG4.out.alloc _
 have HL5 : Hid (Le w5 (some ⟨w4.heap.size, 0, none⟩) [Ex]) := by rw [hw5]; exact HLE.out
 clear HG4 HLE
 have HE2 : Hid (∀ wx, Below w5.heap.size w5 wx → Rt 9 #[.pointer (some ⟨w.heap.size + 2, 0, none⟩), .int .i64 2, .slice (some ⟨w4.heap.size, 0, none⟩) 1 1] wx (.tuple #[.agg #[.int .i64 4, .int .u64 2, .int .u64 0], .int .i64 0])) := fun wx hb => ek (id := 2) (HG5.out.below hb) (HL5.out.below hb) (Or.inr (Or.inl rfl))
 have HE3 : Hid (∀ wx, Below w5.heap.size w5 wx → Rt 9 #[.pointer (some ⟨w.heap.size + 2, 0, none⟩), .int .i64 3, .slice (some ⟨w4.heap.size, 0, none⟩) 1 1] wx (.tuple #[.agg #[.int .i64 0, .int .u64 0, .int .u64 0], .int .i64 0])) := fun wx hb => ek (id := 3) (HG5.out.below hb) (HL5.out.below hb) (Or.inr (Or.inr rfl))
 have HE3n : Hid (∀ wx, Below w5.heap.size w5 wx → Rt 9 #[.pointer (some ⟨w.heap.size + 2, 0, none⟩), .int .i64 3, .slice none 0 0] wx (.tuple #[.agg #[.int .i64 0, .int .u64 0, .int .u64 0], .int .i64 41])) := fun wx hb => ek3n (HG5.out.below hb)
 have HE4 : Hid (∀ wx, Below w5.heap.size w5 wx → Rt 9 #[.pointer (some ⟨w.heap.size + 2, 0, none⟩), .int .i64 4, .slice (some ⟨w4.heap.size, 0, none⟩) 1 1] wx (.tuple #[.agg #[.int .i64 0, .int .u64 0, .int .u64 0], .int .i64 40])) := fun wx hb => ek4 (HG5.out.below hb) (HL5.out.below hb)
 have HIT : Hid (∀ wx gb, Lb wx gb 0 [⟨0, 1, 0⟩, ⟨2, 3, 0⟩, ⟨2, 0, 0⟩] → gb < wx.heap.size → Rt 15 #[.int .i64 9, .int .i64 0, .int .i64 0, .slice (some ⟨gb, 0, none⟩) 3 3] wx (.tuple #[.agg #[.int .i64 2, .int .u64 3, .int .u64 0], .int .i64 0])) := fun wx gb hl hg => apply_ite (s := 2) hl hg ⟨by decide, by decide, by decide, by decide⟩ ⟨by decide, by decide, by decide, by decide⟩ ⟨by decide, by decide, by decide, by decide⟩ (by decide)
 have HAK : Hid (∀ wx gi, Below w5.heap.size w5 wx → Li wx gi 0 [1, 2] → gi < wx.heap.size → Calls Tryz.prog 11 #[.pointer (some ⟨w.heap.size + 2, 0, none⟩), .slice (some ⟨gi, 0, none⟩) 2 2, .slice (some ⟨w4.heap.size, 0, none⟩) 1 1] wx fun e w' => ∃ r cap, e = .returned (.tuple #[.slice (some ⟨r, 0, none⟩) 2 cap, .int .i64 0]) ∧ Below wx.heap.size wx w') := fun wx gi hb hl hg => (ak (HG5.out.below hb) (HL5.out.below hb) hl hg).mono (by
  rintro e w' ⟨u, rfl, ha, hb⟩
  obtain ⟨r, cap, rfl⟩ := allr2 ha
  exact ⟨r, cap, rfl, hb⟩)
 have HCK : Hid (∀ wx, Below w5.heap.size w5 wx → Calls Tryz.prog 13 #[.pointer (some ⟨w.heap.size + 2, 0, none⟩), .slice none 0 0] wx fun e w' => ∃ r cap, e = .returned (.slice (some ⟨r, 0, none⟩) 1 cap) ∧ Lv w' r 0 [⟨⟨#[120]⟩, ⟨4, 0, 0⟩⟩] ∧ r < w'.heap.size ∧ Below wx.heap.size wx w') := fun wx hb => ck (HG5.out.below hb)
 go_wp2_with fail
 rw [← hw5]
 have hs5 := hb5.size
 refine (HE2.out _ (Below.refl w5.heap.size w5)).mono ?_
 rintro e w6 ⟨rfl, hb⟩
 have s6 : w5.heap.size + 0 ≤ w6.heap.size := by have := hb.size; exact this
 have B6 : Below w5.heap.size w5 w6 := (Below.refl w5.heap.size w5).trans (hb.mono (by have := ((Below.refl w5.heap.size w5)).size; omega))
 clear hb
 go_wp2_with fail
 refine (HE3.out _ (B6.alloc (by have := (B6).size; omega) (.cells #[.int .i64 4, .int .u64 2, .int .u64 0] 34))).mono ?_
 rintro e w7 ⟨rfl, hb⟩
 have s7 : w6.heap.size + 1 ≤ w7.heap.size := by have := hb.size; rw [size_alloc'] at this; exact this
 have B7 : Below w5.heap.size w5 w7 := (B6.alloc (by have := (B6).size; omega) (.cells #[.int .i64 4, .int .u64 2, .int .u64 0] 34)).trans (hb.mono (by rw [size_alloc']; have := (B6).size; omega))
 have f6_7 : Hid (w7.heap[w6.heap.size]? = some (.cells #[.int .i64 4, .int .u64 2, .int .u64 0] 34)) := (hb.block _ (by rw [size_alloc']; omega)).trans (heap_alloc_new w6 (.cells #[.int .i64 4, .int .u64 2, .int .u64 0] 34))
 clear hb
 go_wp2_with fail
 refine (HE3n.out _ (B7.alloc (by have := (B7).size; omega) (.cells #[.int .i64 0, .int .u64 0, .int .u64 0] 34))).mono ?_
 rintro e w8 ⟨rfl, hb⟩
 have s8 : w7.heap.size + 1 ≤ w8.heap.size := by have := hb.size; rw [size_alloc'] at this; exact this
 have B8 : Below w5.heap.size w5 w8 := (B7.alloc (by have := (B7).size; omega) (.cells #[.int .i64 0, .int .u64 0, .int .u64 0] 34)).trans (hb.mono (by rw [size_alloc']; have := (B7).size; omega))
 have f6_8 : Hid (w8.heap[w6.heap.size]? = some (.cells #[.int .i64 4, .int .u64 2, .int .u64 0] 34)) := (hb.block _ (by rw [size_alloc']; omega)).trans ((heap_alloc_old _ (.cells #[.int .i64 0, .int .u64 0, .int .u64 0] 34) (by omega)).trans ((f6_7).out))
 have f7_8 : Hid (w8.heap[w7.heap.size]? = some (.cells #[.int .i64 0, .int .u64 0, .int .u64 0] 34)) := (hb.block _ (by rw [size_alloc']; omega)).trans (heap_alloc_new w7 (.cells #[.int .i64 0, .int .u64 0, .int .u64 0] 34))
 clear hb
 go_wp2_with fail
 refine (HE4.out _ (B8.alloc (by have := (B8).size; omega) (.cells #[.int .i64 0, .int .u64 0, .int .u64 0] 34))).mono ?_
 rintro e w9 ⟨rfl, hb⟩
 have s9 : w8.heap.size + 1 ≤ w9.heap.size := by have := hb.size; rw [size_alloc'] at this; exact this
 have B9 : Below w5.heap.size w5 w9 := (B8.alloc (by have := (B8).size; omega) (.cells #[.int .i64 0, .int .u64 0, .int .u64 0] 34)).trans (hb.mono (by rw [size_alloc']; have := (B8).size; omega))
 have f6_9 : Hid (w9.heap[w6.heap.size]? = some (.cells #[.int .i64 4, .int .u64 2, .int .u64 0] 34)) := (hb.block _ (by rw [size_alloc']; omega)).trans ((heap_alloc_old _ (.cells #[.int .i64 0, .int .u64 0, .int .u64 0] 34) (by omega)).trans ((f6_8).out))
 have f7_9 : Hid (w9.heap[w7.heap.size]? = some (.cells #[.int .i64 0, .int .u64 0, .int .u64 0] 34)) := (hb.block _ (by rw [size_alloc']; omega)).trans ((heap_alloc_old _ (.cells #[.int .i64 0, .int .u64 0, .int .u64 0] 34) (by omega)).trans ((f7_8).out))
 clear hb
 go_wp2_with fail
 refine (HIT.out _ _ (fun j x hj t u hu => by
  have hc := heap_alloc_new (w9.alloc (.cells #[.int .i64 0, .int .u64 0, .int .u64 0] 34)) (.cells #[.int .i64 0, .int .u64 1, .int .u64 0, .int .i64 2, .int .u64 3, .int .u64 0, .int .i64 2, .int .u64 0, .int .u64 0] 34)
  rw [size_alloc'] at hc
  match j, hj with
  | 0, hj => obtain rfl := Option.some.inj hj; exact cell_of hc _ (lb9 0 t u rfl hu)
  | 1, hj => obtain rfl := Option.some.inj hj; exact cell_of hc _ (lb9 1 t u rfl hu)
  | 2, hj => obtain rfl := Option.some.inj hj; exact cell_of hc _ (lb9 2 t u rfl hu)
  | q + 3, hj => simp at hj) (by simp)).mono ?_
 rintro e w10 ⟨rfl, hb⟩
 have s10 : w9.heap.size + 2 ≤ w10.heap.size := by have := hb.size; rw [size_alloc', size_alloc'] at this; exact this
 have B10 : Below w5.heap.size w5 w10 := ((B9.alloc (by have := (B9).size; omega) (.cells #[.int .i64 0, .int .u64 0, .int .u64 0] 34)).alloc (by rw [size_alloc']; have := (B9).size; omega) (.cells #[.int .i64 0, .int .u64 1, .int .u64 0, .int .i64 2, .int .u64 3, .int .u64 0, .int .i64 2, .int .u64 0, .int .u64 0] 34)).trans (hb.mono (by rw [size_alloc', size_alloc']; have := (B9).size; omega))
 have f6_10 : Hid (w10.heap[w6.heap.size]? = some (.cells #[.int .i64 4, .int .u64 2, .int .u64 0] 34)) := (hb.block _ (by rw [size_alloc', size_alloc']; omega)).trans ((heap_alloc_old _ (.cells #[.int .i64 0, .int .u64 1, .int .u64 0, .int .i64 2, .int .u64 3, .int .u64 0, .int .i64 2, .int .u64 0, .int .u64 0] 34) (by rw [size_alloc']; omega)).trans ((heap_alloc_old _ (.cells #[.int .i64 0, .int .u64 0, .int .u64 0] 34) (by omega)).trans ((f6_9).out)))
 have f7_10 : Hid (w10.heap[w7.heap.size]? = some (.cells #[.int .i64 0, .int .u64 0, .int .u64 0] 34)) := (hb.block _ (by rw [size_alloc', size_alloc']; omega)).trans ((heap_alloc_old _ (.cells #[.int .i64 0, .int .u64 1, .int .u64 0, .int .i64 2, .int .u64 3, .int .u64 0, .int .i64 2, .int .u64 0, .int .u64 0] 34) (by rw [size_alloc']; omega)).trans ((heap_alloc_old _ (.cells #[.int .i64 0, .int .u64 0, .int .u64 0] 34) (by omega)).trans ((f7_9).out)))
 clear hb
 go_wp2_with fail
 refine (HAK.out _ _ ((B10.alloc (by have := (B10).size; omega) (.cells #[.int .i64 2, .int .u64 3, .int .u64 0] 34)).alloc (by rw [size_alloc']; have := (B10).size; omega) (.cells #[.int .i64 1, .int .i64 2] 3)) (fun j hj => by
  have hc := heap_alloc_new (w10.alloc (.cells #[.int .i64 2, .int .u64 3, .int .u64 0] 34)) (.cells #[.int .i64 1, .int .i64 2] 3)
  rw [size_alloc'] at hc
  have : j = 0 ∨ j = 1 := by simp at hj; omega
  rcases this with rfl | rfl
  ·exact cell_of hc 0 rfl
  ·exact cell_of hc 1 rfl) (by simp)).mono ?_
 rintro e w11 ⟨r, cap, rfl, hb⟩
 have s11 : w10.heap.size + 2 ≤ w11.heap.size := by have := hb.size; rw [size_alloc', size_alloc'] at this; exact this
 have B11 : Below w5.heap.size w5 w11 := ((B10.alloc (by have := (B10).size; omega) (.cells #[.int .i64 2, .int .u64 3, .int .u64 0] 34)).alloc (by rw [size_alloc']; have := (B10).size; omega) (.cells #[.int .i64 1, .int .i64 2] 3)).trans (hb.mono (by rw [size_alloc', size_alloc']; have := (B10).size; omega))
 have f6_11 : Hid (w11.heap[w6.heap.size]? = some (.cells #[.int .i64 4, .int .u64 2, .int .u64 0] 34)) := (hb.block _ (by rw [size_alloc', size_alloc']; omega)).trans ((heap_alloc_old _ (.cells #[.int .i64 1, .int .i64 2] 3) (by rw [size_alloc']; omega)).trans ((heap_alloc_old _ (.cells #[.int .i64 2, .int .u64 3, .int .u64 0] 34) (by omega)).trans ((f6_10).out)))
 have f7_11 : Hid (w11.heap[w7.heap.size]? = some (.cells #[.int .i64 0, .int .u64 0, .int .u64 0] 34)) := (hb.block _ (by rw [size_alloc', size_alloc']; omega)).trans ((heap_alloc_old _ (.cells #[.int .i64 1, .int .i64 2] 3) (by rw [size_alloc']; omega)).trans ((heap_alloc_old _ (.cells #[.int .i64 2, .int .u64 3, .int .u64 0] 34) (by omega)).trans ((f7_10).out)))
 have f10_11 : Hid (w11.heap[w10.heap.size]? = some (.cells #[.int .i64 2, .int .u64 3, .int .u64 0] 34)) := (hb.block _ (by rw [size_alloc', size_alloc']; omega)).trans ((heap_alloc_old (w10.alloc (.cells #[.int .i64 2, .int .u64 3, .int .u64 0] 34)) (.cells #[.int .i64 1, .int .i64 2] 3) (by rw [size_alloc']; omega)).trans (heap_alloc_new w10 (.cells #[.int .i64 2, .int .u64 3, .int .u64 0] 34)))
 clear hb
 have c60 : w11.cell? ⟨w6.heap.size, 0, none⟩ = some (.int .i64 4) := cell_of f6_11.out 0 rfl
 have c61 : w11.cell? ⟨w6.heap.size, 1, none⟩ = some (.int .u64 2) := cell_of f6_11.out 1 rfl
 have c62 : w11.cell? ⟨w6.heap.size, 2, none⟩ = some (.int .u64 0) := cell_of f6_11.out 2 rfl
 have c70 : w11.cell? ⟨w7.heap.size, 0, none⟩ = some (.int .i64 0) := cell_of f7_11.out 0 rfl
 have c71 : w11.cell? ⟨w7.heap.size, 1, none⟩ = some (.int .u64 0) := cell_of f7_11.out 1 rfl
 have c72 : w11.cell? ⟨w7.heap.size, 2, none⟩ = some (.int .u64 0) := cell_of f7_11.out 2 rfl
 have c100 : w11.cell? ⟨w10.heap.size, 0, none⟩ = some (.int .i64 2) := cell_of f10_11.out 0 rfl
 have c101 : w11.cell? ⟨w10.heap.size, 1, none⟩ = some (.int .u64 3) := cell_of f10_11.out 1 rfl
 have c102 : w11.cell? ⟨w10.heap.size, 2, none⟩ = some (.int .u64 0) := cell_of f10_11.out 2 rfl
 go_wp2_with fail
 refine (HCK.out _ B11).mono ?_
 rintro e w12 ⟨r2, cap2, rfl, hl, hr2, hb⟩
 have s12 := hb.size
 have B12 : Below w5.heap.size w5 w12 := B11.trans (hb.mono B11.size)
 have HLV : Hid _ := hl
 clear hb hl
 go_wp2_with fail
 refine (named_same (l := [⟨⟨#[120]⟩, ⟨4, 0, 0⟩⟩]) (c := cap2) (c' := 1) (fun j x hj t u hu => ?_) (fun j x hj t u hu => ?_) (by decide) (by rw [size_alloc']; omega) (by rw [size_alloc']; omega)).mono ?_
 ·have h := HLV.out j x hj t u hu
  rw [World.cell?_of_block (heap_alloc_old _ _ hr2)]; exact h
 ·match j, hj with
  | 0, hj =>
   obtain rfl := Option.some.inj hj
   rw [show 0 + 0 * 4 + t = t by omega]
   exact cell_of (heap_alloc_new w12 _) t (by simpa [Nv.cs] using hu)
  | k + 1, hj => simp at hj
 rintro e w13 ⟨rfl, hb⟩
 have B13 : Below w5.heap.size w5 w13 := (B12.alloc B12.size (.cells #[.string ⟨#[120]⟩, .int .i64 4, .int .u64 0, .int .u64 0] 60)).trans (hb.mono (by rw [size_alloc']; have := B12.size; omega))
 clear hb
 go_wp2_with fail
 go_ret
 exact ⟨rfl, hb5.trans (B13.mono hb5.size)⟩
theorem place_emod {k n : Int} (hn : 0 < n) : k % n = if k.tmod n < 0 then k.tmod n + n else k.tmod n := by
 rw [Int.tmod_eq_emod]
 have h1 := Int.emod_nonneg k (by omega : n ≠ 0)
 have h2 := Int.emod_lt_of_pos k hn
 have e : (n.natAbs : Int) = n := by omega
 split
 ·rw [if_neg (by omega)]; omega
 ·next hq =>
  have : ¬ n ∣ k := fun h => hq (Or.inr h)
  have h3 : k % n ≠ 0 := fun h => this (Int.dvd_of_emod_eq_zero h)
  rw [if_pos (by omega)]; omega
theorem tmod_rng {k n : Int} (hn : 0 < n) : -n ≤ k.tmod n ∧ k.tmod n < n := by
 have h1 := place_emod (k := k) hn
 have h2 := Int.emod_nonneg k (by omega : n ≠ 0)
 have h3 := Int.emod_lt_of_pos k hn
 split at h1 <;> omega
theorem place_any {k n : Int} (hn : 0 < n) (hn2 : n ≤ 1000000000) (w : World) :
  Calls Tryz.prog 18 #[.int .i64 k, .int .i64 n] w fun e w' => e = .returned (.int .i64 (k % n)) ∧ w' = w := by
 have hp := place_emod (k := k) hn
 obtain ⟨r1, r2⟩ := tmod_rng (k := k) hn
 obtain ⟨T, hT⟩ : ∃ T, T = k.tmod n := ⟨_, rfl⟩
 obtain ⟨R, hR⟩ : ∃ R, R = k % n := ⟨_, rfl⟩
 rw [← hR]
 rw [← hT, ← hR] at hp
 rw [← hT] at r1 r2
 have z : ¬ n = 0 := by omega
 have eT : k.tmod n = T := hT.symm
 have eW : IntKind.i64.wrap T = T := by rw [IntKind.wrap_i64]; omega
 by_cases hneg : T < 0
 ·rw [if_pos hneg] at hp
  have HR : Hid _ := hp
  clear hp hT hR
  go_enter Tryz.func18, Tryz.ntmps18
  go_wp2_with fail
  go_ret
  exact ⟨by rw [HR.out]; rfl, rfl⟩
 ·rw [if_neg hneg] at hp
  have HR : Hid _ := hp
  clear hp hT hR
  go_enter Tryz.func18, Tryz.ntmps18
  go_wp2_with fail
  go_ret
  exact ⟨by rw [HR.out]; rfl, rfl⟩
theorem info_anyN {t : TypeId} {z : Value} {s b : Nat} (h : (Tryz.prog.info? t).map (fun i => (i.zero, i.size, i.bytes)) = some (some z, s, b)) : ∃ i, Tryz.prog.info? t = some i ∧ i.zero = some z ∧ i.size = s ∧ i.bytes = b := by
 obtain ⟨i, hi, e⟩ := Option.map_eq_some_iff.1 h
 simp at e
 exact ⟨i, hi, e.1, e.2.1, e.2.2⟩
theorem run_append_none (w : World) (ty : TypeId) {base n c : Nat} {v : Value} {xs : List Value} (hown : w.ownsRow base 60 4 v n xs) :
  (Builtin.append_ #[23, 23] ty #[v, .slice none 0 c]).run Tryz.prog w = .ok v w := by
 obtain ⟨i, hi, hz, hs, hb⟩ := info_anyN infoN
 rcases hown.2 with ⟨rfl, rfl⟩ | ⟨g, cap, cur, rfl, hbg, hg, hnc, hcm, hcs, htake⟩
 ·simp [Builtin.append_, run_underlying underN, sizeOf, typeInfo, hi, Builtin.lenOf, Builtin.firstCells]
 ·simp [Builtin.append_, run_underlying underN, sizeOf, typeInfo, hi, Builtin.lenOf, Builtin.firstCells, hnc, storeCells]
theorem nv_len (l : List Nv) : (l.flatMap Nv.cs).length = l.length * 4 := by
 induction l with
 | nil => rfl
 | cons e l ih => rw [List.flatMap_cons, List.length_append, ih, List.length_cons]; show 4 + _ = _; omega
theorem nv_at : ∀ (l : List Nv) (i : Nat) (x : Nv), l[i]? = some x → ∀ t, t < 4 → (l.flatMap Nv.cs)[i * 4 + t]? = x.cs[t]?
 | [], _, _, h, _, _ => by simp at h
 | y :: l, 0, x, h, t, ht => by
  obtain rfl : y = x := by simpa using h
  rw [List.flatMap_cons, Nat.zero_mul, Nat.zero_add, List.getElem?_append_left (by show t < 4; exact ht)]
 | y :: l, i + 1, x, h, t, ht => by
  rw [List.flatMap_cons, List.getElem?_append_right (by show 4 ≤ _; omega)]
  show (l.flatMap Nv.cs)[(i + 1) * 4 + t - 4]? = _
  rw [show (i + 1) * 4 + t - 4 = i * 4 + t by omega]
  exact nv_at l i x (by simpa using h) t ht
theorem nv_of {l : List Nv} {j : Nat} {u : Value} (h : (l.flatMap Nv.cs)[j]? = some u) : ∃ x, l[j / 4]? = some x ∧ x.cs[j % 4]? = some u := by
 have hj : j < (l.flatMap Nv.cs).length := (List.getElem?_eq_some_iff.1 h).1
 rw [nv_len] at hj
 have hi : j / 4 < l.length := by omega
 refine ⟨l[j / 4], List.getElem?_eq_getElem hi, ?_⟩
 rw [← nv_at l (j / 4) _ (List.getElem?_eq_getElem hi) (j % 4) (by omega), show j / 4 * 4 + j % 4 = j by omega]
 exact h
theorem one_nvs (l : List Nv) : ∀ u ∈ l.flatMap Nv.cs, u.oneCell' = true := by
 intro u hu
 obtain ⟨x, hx, h⟩ := List.mem_flatMap.1 hu
 exact one_nv x u h
theorem app_le (w : World) (ty : TypeId) {base n c : Nat} {v : Value} {xs : List Value} (hown : w.ownsRow base 60 4 v n xs) {ad : Option Addr} {l : List Nv} (hle : Le w ad l) (hn : n + l.length ≤ 100000) (hbase : base ≤ w.heap.size) :
  ∃ v' w', (Builtin.append_ #[23, 23] ty #[v, .slice ad l.length c]).run Tryz.prog w = .ok v' w' ∧ w'.ownsRow base 60 4 v' (n + l.length) (xs ++ l.flatMap Nv.cs) ∧ w.grownBy w' v.ownBlock := by
 obtain ⟨i, hi, hz, hs, hb⟩ := info_anyN infoN
 have go : ∀ (a : Addr), (∀ j u, (l.flatMap Nv.cs)[j]? = some u → w.cell? (a.add j) = some u) → ∃ v' w', (Builtin.append_ #[23, 23] ty #[v, .slice (some a) l.length c]).run Tryz.prog w = .ok v' w' ∧ w'.ownsRow base 60 4 v' (n + l.length) (xs ++ l.flatMap Nv.cs) ∧ w.grownBy w' v.ownBlock := by
  intro a ha
  obtain ⟨v', w', h1, h2, h3, -⟩ := run_append_own (P := Tryz.prog) w base 23 ty 60 i _ 4 40 underN hi hz hs hb rfl (by decide) v n xs hown a l.length c (l.flatMap Nv.cs) (nv_len l) ha (one_nvs l) (by unfold maxLen; omega) (by omega) hbase
  exact ⟨v', w', h1, h2, h3⟩
 rcases hle with rfl | ⟨g, o, rfl, hg, hc⟩
 ·cases ad with
  | none =>
   refine ⟨v, w, run_append_none w ty hown, ?_, ⟨rfl, rfl, rfl, Nat.le_refl _, fun _ _ _ => rfl⟩⟩
   simpa using hown
  | some a => exact go a (fun j u h => by simp at h)
 ·refine go ⟨g, o, none⟩ (fun j u h => ?_)
  obtain ⟨x, hx, hu⟩ := nv_of h
  have h1 := hc (j / 4) x hx (j % 4) u hu
  have e : (⟨g, o, none⟩ : Addr).add j = ⟨g, o + j / 4 * 4 + j % 4, none⟩ := by
   rw [show o + j / 4 * 4 + j % 4 = o + j by omega]; simp [Addr.add]
  rw [e]; exact h1
theorem wpList_app_le {w : World} {ops : Array Oper} {rest : List Oper} {o : Oper} {a : Act} {Q : Exit → Act → World → Prop} (hgd : o.guard = none) (s x : Operand)
  (ho : o.op = .call { callee := .builtin .append, args := #[s, x], argTypes := #[23, 23] })
  (base : Nat) (v : Value) (n : Nat) (xs : List Value) (hs : a.eval s = v) (hown : w.ownsRow base 60 4 v n xs)
  (ad : Option Addr) (l : List Nv) (c m : Nat) (hx : a.eval x = .slice ad m c) (hm : m = l.length) (hle : Le w ad l) (hn : n + l.length ≤ 100000) (hbase : base ≤ w.heap.size)
  (h : ∀ v' w', w'.ownsRow base 60 4 v' (n + l.length) (xs ++ l.flatMap Nv.cs) → w.grownBy w' v.ownBlock → wpList Tryz.prog ops Q rest (a.put o.dst v') w') :
  wpList Tryz.prog ops Q (o :: rest) a w := by
 subst hm
 refine wpList_plain hgd fun K hK => ?_
 obtain ⟨v', w', hr, h2, h3⟩ := app_le w o.type (c := c) hown hle hn hbase
 unfold Oper.wp execOp
 simp only [ho, resolve, invoke, builtin, Sem.run_bind, Sem.run_pure, Result.andThen_ok, List.map_toArray, List.map_cons, List.map_nil, hs, hx, hr]
 exact hK _ _ (h v' w' h2 h3)
theorem le_of {w : World} {base : Nat} {u : Value} {l : List Nv} (h : Nv' w base u l) : ∃ a c, u = .slice a l.length c ∧ Le w a l := by
 rcases h.2 with ⟨rfl, h0⟩ | ⟨g, cap, cur, rfl, hb, hg, hc, hm, hs, ht⟩
 ·rw [List.eq_nil_of_length_eq_zero h0]; exact ⟨none, 0, rfl, Or.inl rfl⟩
 ·refine ⟨_, _, rfl, Or.inr ⟨g, 0, rfl, (Array.getElem?_eq_some_iff.1 hg).1, fun j x hj t y hy => ?_⟩⟩
  have ht4 : t < 4 := (List.getElem?_eq_some_iff.1 hy).1
  have hjl : j < l.length := (List.getElem?_eq_some_iff.1 hj).1
  have h1 := (nv_at l j x hj t ht4).trans hy
  rw [← ht, List.getElem?_take_of_lt (by omega)] at h1
  rw [Nat.zero_add]
  exact cell_of hg _ (by simpa using h1)
theorem cmp_bk {ns : List Nd} {G : List (Int × Bt)} (hv : Inv ns) (hG : ∀ p ∈ G, Bk p.2) : ∀ x ∈ (vsF ns).map (cmpV ns G), Bk x.v := by
 intro x hx
 obtain ⟨p, hp, rfl⟩ := List.mem_map.1 hx
 unfold cmpV
 show Bk (if _ then _ else _)
 split
 ·exact kn_bk hG p
 ·exact ⟨Int.le_refl _, by show (0 : Int) < _; decide, Int.le_refl _, by show (0 : Int) < _; decide⟩
theorem cmp_names {ns : List Nd} {G : List (Int × Bt)} (hn : ∀ n ∈ ns, n.nm.size ≤ 100) : ∀ x ∈ (vsF ns).map (cmpV ns G), x.nm.size ≤ 100 := by
 intro x hx
 obtain ⟨p, hp, rfl⟩ := List.mem_map.1 hx
 obtain ⟨i, n, rfl, hi, h2⟩ := vs_var hp
 rw [cmp_nm hi]
 exact hn n (List.mem_of_getElem? hi)
def mixL (ns : List Nd) (G : List (Int × Bt)) (id : Int) (k : Nat) : List Nv := (((vsF ns).take k).filter fun p => decide (p ∈ coneL ns id)).map (cmpV ns G)
theorem mix_sub {ns : List Nd} {G : List (Int × Bt)} {id : Int} {k : Nat} : ∀ x ∈ mixL ns G id k, x ∈ (vsF ns).map (cmpV ns G) := by
 intro x hx
 obtain ⟨p, hp, rfl⟩ := List.mem_map.1 hx
 exact List.mem_map.2 ⟨p, List.mem_of_mem_take (List.mem_filter.1 hp).1, rfl⟩
theorem mix_len {ns : List Nd} {G : List (Int × Bt)} {id : Int} {k : Nat} : (mixL ns G id k).length ≤ (vsF ns).length := by
 unfold mixL
 rw [List.length_map]
 exact Nat.le_trans (List.length_filter_le _ _) (by rw [List.length_take]; omega)
theorem mix_snoc {ns : List Nd} {G : List (Int × Bt)} {id : Int} {k : Nat} {p : Int} (h : (vsF ns)[k]? = some p) : mixL ns G id (k + 1) = mixL ns G id k ++ (if p ∈ coneL ns id then [cmpV ns G p] else []) := by
 unfold mixL
 rw [List.take_add_one, h, List.filter_append, List.map_append]
 congr 1
 by_cases hp : p ∈ coneL ns id
 ·simp [hp]
 ·simp [hp]
theorem mix_same {A : Int → Int → Int → List Bt → Bt × Int} {ns : List Nd} (hv : Inv ns) {G : List (Int × Bt)} {id : Int} {other : List Nv} {k : Nat} (hk : (vsF ns).length ≤ k) :
  vG A ns (fvF ns ((vsF ns).map (cmpV ns G))) [] id = vG A ns (fvF ns (mixL ns G id k ++ other)) [] id := by
 refine vG_same (fun p hp n hn h2 => ?_)
 obtain ⟨hp1, hp2⟩ := cone_in hv hp
 obtain ⟨i, rfl⟩ : ∃ i : Nat, p = (i : Int) + 1 := ⟨(p - 1).toNat, by omega⟩
 rw [show ((i : Int) + 1 - 1).toNat = i by omega] at hn
 have e1 := comp_get hv (G := G) hn h2
 have e2 : getM (fvF ns (mixL ns G id k ++ other)) ((i : Int) + 1) = some (cmpV ns G ((i : Int) + 1)).v := by
  unfold fvF
  rw [fold_get (by omega), List.find?_append]
  have hf : List.find? (fun x : Nv => decide (varAt ns x.nm = (i : Int) + 1)) (mixL ns G id k) = some (cmpV ns G ((i : Int) + 1)) := by
   refine find_only ?_ ?_ ?_
   ·unfold mixL
    refine List.mem_map.2 ⟨_, List.mem_filter.2 ⟨?_, by simpa using hp⟩, rfl⟩
    rw [List.take_of_length_le hk]; exact vs_mem hn h2
   ·simp only [decide_eq_true_eq]
    exact varAt_some hv hn h2 (cmp_nm hn).symm
   ·intro y hy hP
    obtain ⟨q, hq, rfl⟩ := List.mem_map.1 (mix_sub y hy)
    obtain ⟨j, m, rfl, hj, hm2⟩ := vs_var hq
    simp only [decide_eq_true_eq] at hP
    rw [varAt_some hv hj hm2 (cmp_nm hj).symm] at hP
    rw [hP]
  rw [hf]
  simp [getM]
 unfold fits kn
 rw [e1, e2]
 exact ⟨rfl, rfl⟩
theorem sof_w {b : Bt} {s : Int} (h : sof b = s) (hs : 0 ≤ s) : b.w = s := by
 unfold sof at h
 split at h
 ·exact h
 ·omega
end Go.Proofs.YtejljdbkocnhlaaGreat
