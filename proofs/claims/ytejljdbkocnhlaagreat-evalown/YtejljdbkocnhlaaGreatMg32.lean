import Derived.Test.YtejljdbkocnhlaaGreatMg31
import Derived.Deep.QuietTactic
import Derived.BigQuiet
import Derived.Test.YtejljdbkocnhlaaGreatMg29
import Derived.Test.YtejljdbkocnhlaaGreatMg10
import Derived.Test.YtejljdbkocnhlaaGreatMg24
import Derived.Deep.RegionHeld3
import Derived.Test.YtejljdbkocnhlaaGreatK
namespace Go.Proofs.YtejljdbkocnhlaaGreat
set_option maxHeartbeats 12800000
set_option maxRecDepth 100000
open Go.RowKit
set_option linter.unusedSimpArgs false
set_option linter.unusedVariables false
theorem fit_any {w : World} {b : Nat} {M : List (Int × Bt)} {id s : Int} (h : Bm w b M) (hk : w64 id) (hB : ∀ p ∈ M, Bk p.2) :
  Rt 35 #[.map (some b), .int .i64 id, .int .i64 s] w (.tuple #[.agg #[.int .i64 ((getM M id).getD zBt).w, .int .u64 ((getM M id).getD zBt).lo, .int .u64 ((getM M id).getD zBt).hi], .bool (fits M id s)]) := by
 cases e : getM M id with
 | none =>
  have h1 := fit_no (s := s) h hk e
  unfold fits
  rw [e]
  exact h1
 | some v =>
  have hm : ∃ p ∈ M, p.2 = v := by
   unfold getM at e
   obtain ⟨x, hx, rfl⟩ := Option.map_eq_some_iff.1 e
   exact ⟨x, List.mem_of_find?_eq_some hx, rfl⟩
  obtain ⟨p, hp, rfl⟩ := hm
  have h1 := fit_yes (s := s) h hk e (hB p hp)
  exact h1
def Nv' (w : World) (base : Nat) (v : Value) (l : List Nv) : Prop := w.ownsRow base 60 4 v l.length (l.flatMap Nv.cs)
def cmpV (ns : List Nd) (G : List (Int × Bt)) (i : Int) : Nv := ⟨((ns[(i - 1).toNat]?).map Nd.nm).getD ⟨#[]⟩, if fits G i (sAt ns i) then (getM G i).getD zBt else ⟨sAt ns i, 0, 0⟩⟩
theorem infoN : (Tryz.prog.info? 60).map (fun i => (i.zero, i.size, i.bytes)) = some (some (.agg #[.string ⟨#[]⟩, .int .i64 0, .int .u64 0, .int .u64 0]), 4, 40) := by kernel_rfl
theorem underN : Tryz.prog.underlying 23 = some (.slice 60) := by kernel_rfl
theorem one_nv (x : Nv) : ∀ u ∈ x.cs, u.oneCell' = true := by
 intro u hu
 simp only [Nv.cs, List.mem_cons, List.not_mem_nil, or_false] at hu
 rcases hu with rfl | rfl | rfl | rfl <;> rfl
theorem cells_new4 {w : World} {x y z q : Value} {t : TypeId} {b : Nat} (hb : b = w.heap.size) : ∀ j u, [x, y, z, q][j]? = some u → (w.alloc (.cells #[x, y, z, q] t)).cell? ((⟨b, 0, none⟩ : Addr).add j) = some u := by
 subst hb
 intro j u hj
 have h := cell_of (heap_alloc_new w (.cells #[x, y, z, q] t)) j (v := u) (by simpa using hj)
 rw [show ((⟨w.heap.size, 0, none⟩ : Addr).add j) = ⟨w.heap.size, j, none⟩ by simp only [Addr.add]; split <;> simp_all]
 exact h
theorem mem_vsF {ns : List Nd} {p : Int} (h : p ∈ vsF ns) : ∃ (i : Nat) (n : Nd), p = (i : Int) + 1 ∧ ns[i]? = some n := by
 unfold vsF at h
 obtain ⟨x, hx, he⟩ := List.mem_filterMap.1 h
 rw [List.mem_mapIdx] at hx
 obtain ⟨i, hi, rfl⟩ := hx
 simp only at he
 split at he
 ·exact ⟨i, ns[i], (Option.some.inj he).symm, List.getElem?_eq_getElem hi⟩
 ·cases he
theorem comp_any {w : World} {B g mi mv mo c : Nat} {v : Value} {ns : List Nd} {a : Option Addr} {l : List Nv} (h : Gr w B g mi mv v mo ns) (hne : 0 < ns.length) (he : Le w a l) (hnm : ∀ x ∈ l, x.nm.size ≤ maxLen) (hl : l.length ≤ 1000) (hG : ∀ p ∈ fvF ns l, Bk p.2) :
  Calls Tryz.prog 13 #[.pointer (some ⟨g, 0, none⟩), .slice a l.length c] w fun e w' => ∃ u, e = .returned u ∧ Nv' w' w.heap.size u ((vsF ns).map (cmpV ns (fvF ns l))) ∧ Below w.heap.size w w' := by
 have HFV : Hid _ := fv_any (c := c) h he hnm hl
 have HVS : Hid (∀ wx, Below w.heap.size w wx → Calls Tryz.prog 34 #[.pointer (some ⟨g, 0, none⟩)] wx fun e w' => ∃ u, e = .returned u ∧ Is' w' wx.heap.size u (vsF ns) ∧ Below wx.heap.size wx w') := fun wx hb => vars_any (h.below hb) hne
 have HND : Hid (∀ (wx : World) (i : Nat) (n : Nd), Below w.heap.size w wx → ns[i]? = some n → Rt 19 #[.pointer (some ⟨g, 0, none⟩), .int .i64 ((i : Int) + 1)] wx (.tuple #[.agg #[.int .i64 n.op, .int .i64 n.s, .int .i64 n.a, .int .i64 n.b, .int .i64 n.c, .int .i64 n.p, .int .i64 n.q, .int .i64 n.w, .int .u64 n.lo, .int .u64 n.hi, .string n.nm], .bool true])) := fun wx i n hb hi => node_yes (h.below hb) hi
 have hlen := h.len
 have hvl := vsF_len ns
 obtain ⟨n, hn⟩ : ∃ n, n = l.length := ⟨_, rfl⟩
 rw [← hn] at HFV ⊢
 obtain ⟨t0, ht0, hz0, hz1, hz2⟩ := info_parts infoN
 have HI : Hid (Tryz.prog.info? 60 = some t0 ∧ t0.zero = some (.agg #[.string ⟨#[]⟩, .int .i64 0, .int .u64 0, .int .u64 0]) ∧ t0.size = 4 ∧ t0.bytes = 40) := ⟨ht0, hz0, hz1, hz2⟩
 obtain ⟨G, hGe⟩ : ∃ G, G = fvF ns l := ⟨_, rfl⟩
 rw [← hGe] at HFV hG ⊢
 have HG : Hid _ := hG
 clear h he hnm hl hn ht0 hz0 hz1 hz2 hGe hG
 go_enter Tryz.func13, Tryz.ntmps13
 go_wp2_with fail
 refine Calls.mono HFV.out ?_
 rintro e w1 ⟨rfl, hM, hB⟩
 have HM : Hid _ := hM
 have hs1 : w.heap.size < w1.heap.size := hM.mp.lt
 clear hM
 go_wp2_with fail
 refine Calls.mono (HVS.out _ hB) ?_
 rintro e w2 ⟨u, rfl, hI, hb2⟩
 have hR := hI.rl (by omega)
 obtain ⟨ai, ci, rfl, -, -, hli⟩ := hR
 have HLI : Hid _ := hli
 have HM2 : Hid (Bm w2 w.heap.size G) := HM.out.kept (hb2.block _ hs1)
 have hB2 : Below w.heap.size w w2 := hB.trans (hb2.mono hB.size)
 have hs2 : w.heap.size < w2.heap.size := by have := hb2.size; omega
 obtain ⟨N, hN⟩ : ∃ N, N = (vsF ns).length := ⟨_, rfl⟩
 have HN : Hid _ := hN
 rw [← hN] at hvl ⊢
 clear hI hb2 hli hN HM hB
 go_wp2_with fail
 go_loopw [6, 19] (fun u i wr => ∃ k : Nat, k ≤ N ∧ i = .int .i64 (k : Int) ∧ Hid (Bm wr w.heap.size G ∧ Nv' wr w2.heap.size u (((vsF ns).take k).map (cmpV ns G)) ∧ Below w.heap.size w wr ∧ Below w2.heap.size w2 wr)) (fun u i wr => N - (intOf i).toNat)
 case atStart => exact ⟨0, Nat.zero_le _, rfl, HM2.out, World.ownsRow_nil _ _ _ _, hB2, Below.refl _ _⟩
 case round =>
  clear HM2
  obtain ⟨k, hk, rfl, hH⟩ := hrel
  have hsr : w2.heap.size ≤ wr.heap.size := hH.out.2.2.2.size
  by_cases hlt : k < N
  ·obtain ⟨p, hp⟩ : ∃ p, (vsF ns)[k]? = some p := ⟨_, List.getElem?_eq_getElem (by rw [← HN.out]; exact hlt)⟩
   obtain ⟨i, m, rfl, hi⟩ := mem_vsF (List.mem_of_getElem? hp)
   obtain ⟨r, rfl, hbr, hLi⟩ : ∃ r, ai = some ⟨r, 0, none⟩ ∧ w1.heap.size ≤ r ∧ Li w2 r 0 (vsF ns) := HLI.out.resolve_left (fun e => by rw [e] at hp; simp at hp)
   have hcell : wr.cell? ⟨r, k, none⟩ = some (.int .i64 ((i : Int) + 1)) := by
    have h1 := hLi k (by rw [← HN.out]; exact hlt)
    rw [Nat.zero_add, List.getD_eq_getElem?_getD, hp] at h1
    exact bel_cell hH.out.2.2.2 (World.block_lt_of_cell? _ ⟨r, k, none⟩ h1) h1
   have hltI : (k : Int) < (N : Int) := by omega
   have hil : i < ns.length := (List.getElem?_eq_some_iff.1 hi).1
   have hi64 : w64 ((i : Int) + 1) := by unfold w64; omega
   have HSN : Hid (((vsF ns).take (k + 1)).map (cmpV ns G) = ((vsF ns).take k).map (cmpV ns G) ++ [cmpV ns G ((i : Int) + 1)]) := by
    unfold Hid; rw [List.take_add_one, hp, List.map_append]; rfl
   have HLN : Hid ((((vsF ns).take k).map (cmpV ns G)).length = k) := by unfold Hid; rw [List.length_map, List.length_take]; have := HN.out; omega
   have hNm : m.nm.size ≤ m.nm.size := Nat.le_refl _
   obtain ⟨y, hy⟩ : ∃ y, y = (getM G ((i : Int) + 1)).getD zBt := ⟨_, rfl⟩
   obtain ⟨f, hf⟩ : ∃ f, f = fits G ((i : Int) + 1) m.s := ⟨_, rfl⟩
   have hsA : sAt ns ((i : Int) + 1) = m.s := by unfold sAt; rw [show ((i : Int) + 1 - 1).toNat = i by omega, hi]; rfl
   have HCV : Hid (cmpV ns G ((i : Int) + 1) = ⟨m.nm, if f then y else ⟨m.s, 0, 0⟩⟩) := by
    unfold Hid cmpV
    rw [hsA, hf, hy, show ((i : Int) + 1 - 1).toNat = i by omega, hi]; rfl
   have HFT : Hid (∀ wx, Bm wx w.heap.size G → Rt 35 #[.map (some w.heap.size), .int .i64 ((i : Int) + 1), .int .i64 m.s] wx (.tuple #[.agg #[.int .i64 y.w, .int .u64 y.lo, .int .u64 y.hi], .bool f])) := fun wx hx => by rw [hy, hf]; exact fit_any hx hi64 HG.out
   have HNQ : Hid (∀ wx, Below wr.heap.size wr wx → Rt 19 #[.pointer (some ⟨g, 0, none⟩), .int .i64 ((i : Int) + 1)] wx (.tuple #[.agg #[.int .i64 m.op, .int .i64 m.s, .int .i64 m.a, .int .i64 m.b, .int .i64 m.c, .int .i64 m.p, .int .i64 m.q, .int .i64 m.w, .int .u64 m.lo, .int .u64 m.hi, .string m.nm], .bool true])) := fun wx hx => HND.out wx i m (hH.out.2.2.1.trans (hx.mono hH.out.2.2.1.size)) hi
   clear hp hLi hi hy hf hsA hi64 hNm
   go_wp2_with fail
   refine Calls.mono (HNQ.out _ (Below.refl _ _)) ?_
   rintro e w3 ⟨rfl, hb3⟩
   have hs3 := hb3.size
   have HM3 : Hid (Bm w3 w.heap.size G) := hH.out.1.kept (hb3.block _ (by omega))
   have HO3 : Hid _ := row_kept hH.out.2.1 hb3.block
   have hB3 : Below w.heap.size w w3 := hH.out.2.2.1.trans (hb3.mono hH.out.2.2.1.size)
   have hC3 : Below w2.heap.size w2 w3 := hH.out.2.2.2.trans (hb3.mono hsr)
   clear hb3 HNQ hcell
   go_wp2_with fail
   refine Calls.mono (HFT.out _ (HM3.out.kept (heap_alloc_old _ _ (by omega)))) ?_
   rintro e w4 ⟨rfl, hb4⟩
   have hs4 := hb4.size
   rw [size_alloc'] at hs4
   have n1 : w4.cell? ⟨w3.heap.size, 1, none⟩ = some (.int .i64 m.s) := by rw [hb4.cell (p := ⟨w3.heap.size, 1, none⟩) (by show w3.heap.size < _; rw [size_alloc']; omega)]; simp
   have n10 : w4.cell? ⟨w3.heap.size, 10, none⟩ = some (.string m.nm) := by rw [hb4.cell (p := ⟨w3.heap.size, 10, none⟩) (by show w3.heap.size < _; rw [size_alloc']; omega)]; simp
   have hx4 : Below w3.heap.size w3 w4 := ((Below.refl _ _).alloc (Nat.le_refl _) _).trans (hb4.mono (by rw [size_alloc']; omega))
   have HM4 : Hid (Bm w4 w.heap.size G) := HM3.out.kept (hx4.block _ (by omega))
   have HO4 : Hid (w4.ownsRow w2.heap.size 60 4 u6 (((vsF ns).take k).map (cmpV ns G)).length ((((vsF ns).take k).map (cmpV ns G)).flatMap Nv.cs)) := row_kept HO3.out hx4.block
   have hB4 : Below w.heap.size w w4 := hB3.trans (hx4.mono (by omega))
   have hC4 : Below w2.heap.size w2 w4 := hC3.trans (hx4.mono (by omega))
   have hnl : w3.heap.size < w4.heap.size := by omega
   clear hb4 hx4 HFT hB3 hC3 HM3 HO3
   obtain ⟨x, hx⟩ : ∃ x : Nv, x = cmpV ns G ((i : Int) + 1) := ⟨_, rfl⟩
   cases f
   ·have hx1 : Hid (x = ⟨m.nm, ⟨m.s, 0, 0⟩⟩) := hx.trans HCV.out
    have hbs := hB4.size
    go_wp2_with (at_builtin; refine wpList_append_own_at _ rfl _ _ 23 rfl w2.heap.size 60 t0 (.agg #[.string ⟨#[]⟩, .int .i64 0, .int .u64 0, .int .u64 0]) 4 40 underN HI.out.1 HI.out.2.1 HI.out.2.2.1 HI.out.2.2.2 rfl (by decide) _ _ _ rfl (row_kept (row_kept HO4.out (fun _ hq => heap_alloc_old _ _ hq)) (fun _ hq => heap_alloc_old _ _ hq)) ⟨w4.heap.size + 1, 0, none⟩ 1 1 [.string m.nm, .int .i64 m.s, .int .u64 0, .int .u64 0] rfl rfl (cells_new4 (by rw [size_alloc'])) (one_nv ⟨m.nm, ⟨m.s, 0, 0⟩⟩) (by rw [HLN.out]; unfold maxLen; omega) (by rw [HLN.out]; omega) (by rw [size_alloc', size_alloc']; omega) ?_; intro v6 w6 hown hgrow hnil hat)
    have hq6 : ∀ q, u6.ownBlock = some q → w2.heap.size ≤ q := fun q hq => (HO4.out.lt q hq).1
    have hb6 : Below w.heap.size w w6 := low_grown (hB4.alloc hB4.size _) (by rw [size_alloc']; omega) hgrow (fun q hq => by have := hq6 q hq; omega)
    have hc6 : Below w2.heap.size w2 w6 := low_grown (hC4.alloc hC4.size _) (by rw [size_alloc']; omega) hgrow hq6
    have HM6 : Hid (Bm w6 w.heap.size G) := (HM4.out.kept ((heap_alloc_old _ _ (by rw [size_alloc']; omega)).trans (heap_alloc_old _ _ (by omega)))).kept (hgrow.block _ (by rw [size_alloc', size_alloc']; omega) (fun e => by have := hq6 _ e.symm; omega))
    have HO6 : Hid (Nv' w6 w2.heap.size v6 (((vsF ns).take (k + 1)).map (cmpV ns G))) := by
     unfold Hid Nv'
     rw [HSN.out, ← hx, hx1.out, List.flatMap_append, List.length_append]
     exact hown
    clear hown hgrow hnil hat HO4 HM4
    go_wp2_with fail
    exact ⟨⟨k + 1, by omega, by go_num, HM6.out, HO6.out, hb6, hc6⟩, by simp [intOf]; omega⟩
   ·have hx1 : Hid (x = ⟨m.nm, y⟩) := hx.trans HCV.out
    have hbs := hB4.size
    go_wp2_with (at_builtin; refine wpList_append_own_at _ rfl _ _ 23 rfl w2.heap.size 60 t0 (.agg #[.string ⟨#[]⟩, .int .i64 0, .int .u64 0, .int .u64 0]) 4 40 underN HI.out.1 HI.out.2.1 HI.out.2.2.1 HI.out.2.2.2 rfl (by decide) _ _ _ rfl (row_kept (row_kept HO4.out (fun _ hq => heap_alloc_old _ _ hq)) (fun _ hq => heap_alloc_old _ _ hq)) ⟨w4.heap.size + 1, 0, none⟩ 1 1 [.string m.nm, .int .i64 y.w, .int .u64 y.lo, .int .u64 y.hi] rfl rfl (cells_new4 (by rw [size_alloc'])) (one_nv ⟨m.nm, y⟩) (by rw [HLN.out]; unfold maxLen; omega) (by rw [HLN.out]; omega) (by rw [size_alloc', size_alloc']; omega) ?_; intro v6 w6 hown hgrow hnil hat)
    have hq6 : ∀ q, u6.ownBlock = some q → w2.heap.size ≤ q := fun q hq => (HO4.out.lt q hq).1
    have hb6 : Below w.heap.size w w6 := low_grown (hB4.alloc hB4.size _) (by rw [size_alloc']; omega) hgrow (fun q hq => by have := hq6 q hq; omega)
    have hc6 : Below w2.heap.size w2 w6 := low_grown (hC4.alloc hC4.size _) (by rw [size_alloc']; omega) hgrow hq6
    have HM6 : Hid (Bm w6 w.heap.size G) := (HM4.out.kept ((heap_alloc_old _ _ (by rw [size_alloc']; omega)).trans (heap_alloc_old _ _ (by omega)))).kept (hgrow.block _ (by rw [size_alloc', size_alloc']; omega) (fun e => by have := hq6 _ e.symm; omega))
    have HO6 : Hid (Nv' w6 w2.heap.size v6 (((vsF ns).take (k + 1)).map (cmpV ns G))) := by
     unfold Hid Nv'
     rw [HSN.out, ← hx, hx1.out, List.flatMap_append, List.length_append]
     exact hown
    clear hown hgrow hnil hat HO4 HM4
    go_wp2_with fail
    exact ⟨⟨k + 1, by omega, by go_num, HM6.out, HO6.out, hb6, hc6⟩, by simp [intOf]; omega⟩
  ·obtain rfl : k = N := by omega
   have hltI : ¬ (k : Int) < (k : Int) := by omega
   have HF : Hid (Nv' wr w2.heap.size u6 ((vsF ns).map (cmpV ns G))) := by have h := hH.out.2.1; rw [HN.out, List.take_length] at h; exact h
   go_wp2_with fail
   go_ret
   exact ⟨_, rfl, row_low HF.out (Nat.le_of_lt hs2), hH.out.2.2.1⟩
open Go.RowKit
def ApF (A : Int → Int → Int → List Bt → Bt × Int) : Prop := ∀ op p q l, (∀ b ∈ l, Bk b) → l.length ≤ 8 → l ≠ [] → p < 9223372036854775808 →
 ApP op p q l (A op p q l).1 (A op p q l).2 ∧ (∀ s, srtF op p q (l.map sof) = (s, 0) → (A op p q l).2 = 0 ∧ Bk (A op p q l).1 ∧ sof (A op p q l).1 = s) ∧ ((A op p q l).2 = 0 → ∃ s, srtF op p q (l.map sof) = (s, 0))
theorem ap_fun : ∃ A, ApF A := by
 have H : ∀ op p q l, ∃ x : Bt × Int, (∀ b ∈ l, Bk b) → l.length ≤ 8 → l ≠ [] → p < 9223372036854775808 →
   ApP op p q l x.1 x.2 ∧ (∀ s, srtF op p q (l.map sof) = (s, 0) → x.2 = 0 ∧ Bk x.1 ∧ sof x.1 = s) ∧ (x.2 = 0 → ∃ s, srtF op p q (l.map sof) = (s, 0)) := by
  intro op p q l
  by_cases hc : (∀ b ∈ l, Bk b) ∧ l.length ≤ 8 ∧ l ≠ [] ∧ p < 9223372036854775808
  ·obtain ⟨hk, hl, hne, hp⟩ := hc
   by_cases hs : ∃ s, srtF op p q (l.map sof) = (s, 0)
   ·obtain ⟨s, hs⟩ := hs
    have h1 : 1 ≤ ari op := by
     have := (srt_ok hs).1
     rw [List.length_map] at this
     have := List.length_pos_iff.2 hne
     omega
    obtain ⟨r, c1, c3, c4⟩ := pr_all hk hp h1 hs
    refine ⟨(r, 0), fun _ _ _ _ => ⟨c1, fun s' hs' => ⟨rfl, c3, ?_⟩, fun _ => ⟨s, hs⟩⟩⟩
    rw [hs] at hs'
    cases hs'
    exact c4
   ·obtain ⟨r, er, c1, c3⟩ := apply_pair (op := op) (q := q) hk hl hne hp
    exact ⟨(r, er), fun _ _ _ _ => ⟨c1, fun s hs' => absurd ⟨s, hs'⟩ hs, c3⟩⟩
  ·exact ⟨(zBt, 0), fun h1 h2 h3 h4 => absurd ⟨h1, h2, h3, h4⟩ hc⟩
 exact ⟨fun op p q l => Classical.choose (H op p q l), fun op p q l => Classical.choose_spec (H op p q l)⟩
def kn (M : List (Int × Bt)) (i : Int) : Bt := (getM M i).getD zBt
def PVg (A : Int → Int → Int → List Bt → Bt × Int) (ns : List Nd) (G M : List (Int × Bt)) (p : Int) : Bt × Int :=
 match ns[(p - 1).toNat]? with
 | none => (zBt, 0)
 | some n => if n.op = 1 then (⟨n.w, n.lo, n.hi⟩, 0) else if n.op = 2 then (if fits G p n.s then kn G p else zBt, if fits G p n.s then 0 else 41) else A n.op n.p n.q (([n.a, n.b, n.c].map (kn M)).take (ari n.op).toNat)
theorem kn_bk {M : List (Int × Bt)} (h : ∀ p ∈ M, Bk p.2) (i : Int) : Bk (kn M i) := by
 unfold kn
 cases e : getM M i with
 | none => exact ⟨by decide, by decide, by decide, by decide⟩
 | some v =>
  unfold getM at e
  obtain ⟨x, hx, rfl⟩ := Option.map_eq_some_iff.1 e
  exact h x (List.mem_of_find?_eq_some hx)
theorem Lb.one {w : World} {g o : Nat} {a : Bt} {l : List Bt} (h : Lb w g o (a :: l)) : Lb w g o [a] := fun j x hj t u hu => h j x (by
 match j, hj with
 | 0, hj => exact hj
 | k + 1, hj => simp at hj) t u hu
theorem Lb.twoG {w : World} {g o : Nat} {a b : Bt} {l : List Bt} (h : Lb w g o (a :: b :: l)) : Lb w g o [a, b] := fun j x hj t u hu => h j x (by
 match j, hj with
 | 0, hj => exact hj
 | 1, hj => exact hj
 | k + 2, hj => simp at hj) t u hu
theorem pvg {A : Int → Int → Int → List Bt → Bt × Int} (hA : ApF A) {w : World} {B g mi mv mo wb mg mk i : Nat} {v : Value} {ns : List Nd} {G M : List (Int × Bt)} {n : Nd} (h : Gr w B g mi mv v mo ns) (hw : Wk w wb g mg mk G M) (hi : ns[i]? = some n)
  (hG : ∀ p ∈ G, Bk p.2) (hM : ∀ p ∈ M, Bk p.2) (ha : w64 n.a) (hb : w64 n.b) (hc : w64 n.c) (hp : n.p < 9223372036854775808) (har : n.op = 1 ∨ n.op = 2 ∨ (1 ≤ ari n.op ∧ ari n.op ≤ 3)) (hi64 : w64 ((i : Int) + 1)) :
  Rt 48 #[.pointer (some ⟨wb, 0, none⟩), .int .i64 ((i : Int) + 1)] w (.tuple #[.agg #[.int .i64 (PVg A ns G M ((i : Int) + 1)).1.w, .int .u64 (PVg A ns G M ((i : Int) + 1)).1.lo, .int .u64 (PVg A ns G M ((i : Int) + 1)).1.hi], .int .i64 (PVg A ns G M ((i : Int) + 1)).2]) := by
 have hidx : ((i : Int) + 1 - 1).toNat = i := by omega
 by_cases h1 : n.op = 1
 ·have e : PVg A ns G M ((i : Int) + 1) = (⟨n.w, n.lo, n.hi⟩, 0) := by unfold PVg; rw [hidx, hi]; simp [h1]
  rw [e]; exact pv_const h hw hi h1
 ·by_cases h2 : n.op = 2
  ·have e : PVg A ns G M ((i : Int) + 1) = (if fits G ((i : Int) + 1) n.s then kn G ((i : Int) + 1) else zBt, if fits G ((i : Int) + 1) n.s then 0 else 41) := by unfold PVg; rw [hidx, hi]; simp [h2]
   rw [e]; exact pv_var h hw hi h2 (fun wx hb => fit_any (hw.below hb).gv hi64 hG)
  ·have e : PVg A ns G M ((i : Int) + 1) = A n.op n.p n.q (([n.a, n.b, n.c].map (kn M)).take (ari n.op).toNat) := by unfold PVg; rw [hidx, hi]; simp [h1, h2]
   have hr : ari n.op = 1 ∨ ari n.op = 2 ∨ ari n.op = 3 := by omega
   have ka := kn_bk hM n.a
   have kb := kn_bk hM n.b
   have kc := kn_bk hM n.c
   rcases hr with hr | hr | hr
   ·have e2 : ([n.a, n.b, n.c].map (kn M)).take (ari n.op).toNat = [kn M n.a] := by rw [hr]; rfl
    have hF := hA n.op n.p n.q [kn M n.a] (fun b hb => by rw [List.mem_singleton.1 hb]; exact ka) (by simp) (by simp) hp
    rw [e, e2]
    exact pv_op1 h hw hi h1 h2 ha hb hc rfl rfl rfl (fun wx => by have := arity_any n.op wx; rw [hr] at this; exact this) (fun wx gb _ hgb hl => hF.1 wx gb 0 3 (Lb.one hl) hgb)
   ·have e2 : ([n.a, n.b, n.c].map (kn M)).take (ari n.op).toNat = [kn M n.a, kn M n.b] := by rw [hr]; rfl
    have hF := hA n.op n.p n.q [kn M n.a, kn M n.b] (fun b hb => by
     rcases List.mem_cons.1 hb with rfl | hb
     ·exact ka
     ·rw [List.mem_singleton.1 hb]; exact kb) (by simp) (by simp) hp
    rw [e, e2]
    exact pv_op2 h hw hi h1 h2 ha hb hc rfl rfl rfl (fun wx => by have := arity_any n.op wx; rw [hr] at this; exact this) (fun wx gb _ hgb hl => hF.1 wx gb 0 3 (Lb.twoG hl) hgb)
   ·have e2 : ([n.a, n.b, n.c].map (kn M)).take (ari n.op).toNat = [kn M n.a, kn M n.b, kn M n.c] := by rw [hr]; rfl
    have hF := hA n.op n.p n.q [kn M n.a, kn M n.b, kn M n.c] (fun b hb => by
     rcases List.mem_cons.1 hb with rfl | hb
     ·exact ka
     ·rcases List.mem_cons.1 hb with rfl | hb
      ·exact kb
      ·rw [List.mem_singleton.1 hb]; exact kc) (by simp) (by simp) hp
    rw [e, e2]
    exact pv_op3 h hw hi h1 h2 ha hb hc rfl rfl rfl (fun wx => by have := arity_any n.op wx; rw [hr] at this; exact this) (fun wx gb _ hgb hl => hF.1 wx gb 0 3 hl hgb)
open Go.RowKit
structure Nok (ns : List Nd) : Prop where
 vals : ∀ n ∈ ns, Bk ⟨n.w, n.lo, n.hi⟩
 ps : ∀ n ∈ ns, n.p < 9223372036854775808
 ars : ∀ n ∈ ns, n.op = 1 ∨ n.op = 2 ∨ (1 ≤ ari n.op ∧ ari n.op ≤ 3)
def vG (A : Int → Int → Int → List Bt → Bt × Int) (ns : List Nd) (G M : List (Int × Bt)) (id : Int) : List (Int × Bt) × Bt × Int :=
 match getM M id with
 | some y => (M, y, 0)
 | none => if coneL ns id = [] then (M, zBt, 40) else ((vLoop (PVg A ns G) (coneL ns id) M).1, if (vLoop (PVg A ns G) (coneL ns id) M).2 = 0 then kn (vLoop (PVg A ns G) (coneL ns id) M).1 id else zBt, (vLoop (PVg A ns G) (coneL ns id) M).2)
theorem pvg_bk {A : Int → Int → Int → List Bt → Bt × Int} (hA : ApF A) {ns : List Nd} (hN : Nok ns) {G M : List (Int × Bt)} (hG : ∀ p ∈ G, Bk p.2) (hM : ∀ p ∈ M, Bk p.2) {p : Int} (h0 : (PVg A ns G M p).2 = 0) : Bk (PVg A ns G M p).1 := by
 have hz : Bk zBt := ⟨by decide, by decide, by decide, by decide⟩
 unfold PVg at h0 ⊢
 split
 ·exact hz
 ·rename_i n hn
  rw [hn] at h0
  simp only at h0
  have hm := List.mem_of_getElem? hn
  split
  ·exact hN.vals n hm
  ·rename_i h1
   rw [if_neg h1] at h0
   split
   ·show Bk (if _ then _ else _)
    split
    ·exact kn_bk hG p
    ·exact hz
   ·rename_i h2
    rw [if_neg h2] at h0
    have har := hN.ars n hm
    have hbk : ∀ b ∈ ([n.a, n.b, n.c].map (kn M)).take (ari n.op).toNat, Bk b := fun b hb => by
     obtain ⟨i, -, rfl⟩ := List.mem_map.1 (List.mem_of_mem_take hb)
     exact kn_bk hM i
    have hlen : (([n.a, n.b, n.c].map (kn M)).take (ari n.op).toNat).length = (ari n.op).toNat := by
     rw [List.length_take]; simp; omega
    have hF := hA n.op n.p n.q _ hbk (by rw [hlen]; omega) (fun e => by rw [e] at hlen; simp at hlen; omega) (hN.ps n hm)
    obtain ⟨s, hs⟩ := hF.2.2 h0
    exact (hF.2.1 s hs).2.1
theorem valg {A : Int → Int → Int → List Bt → Bt × Int} (hA : ApF A) {w : World} {B g mi mv mo wb mg mk : Nat} {v : Value} {ns : List Nd} {G M : List (Int × Bt)} {id : Int} (hN : Nok ns)
  (HG : Hid (∀ wx, w.grownBy wx (some mk) → Gr wx B g mi mv v mo ns)) (hw : Wk w wb g mg mk G M) (hid : w64 id) (hG : ∀ p ∈ G, Bk p.2) (hM : ∀ p ∈ M, Bk p.2) (hr : ∀ p ∈ coneL ns id, 1 ≤ p ∧ p ≤ (ns.length : Int)) :
  Calls Tryz.prog 27 #[.pointer (some ⟨wb, 0, none⟩), .int .i64 id] w fun e w' => e = .returned (.tuple #[.agg #[.int .i64 (vG A ns G M id).2.1.w, .int .u64 (vG A ns G M id).2.1.lo, .int .u64 (vG A ns G M id).2.1.hi], .int .i64 (vG A ns G M id).2.2]) ∧ Wk w' wb g mg mk G (vG A ns G M id).1 ∧ w.grownBy w' (some mk) := by
 have hgr : Gr w B g mi mv v mo ns := HG.out w (gb_below (Below.refl _ _))
 have hlen := hgr.len
 cases hy : getM M id with
 | some y =>
  have e : vG A ns G M id = (M, y, 0) := by unfold vG; rw [hy]
  rw [e]
  exact (val_known hw hid hy).mono fun e w' hh => ⟨hh.1, hw.below hh.2, gb_below hh.2⟩
 | none =>
  by_cases hL : coneL ns id = []
  ·have e : vG A ns G M id = (M, zBt, 40) := by unfold vG; rw [hy]; simp [hL]
   rw [e]
   exact (val_none hgr hw hid hy hL).mono fun e w' hh => ⟨hh.1, hw.below hh.2, gb_below hh.2⟩
  ·have e : vG A ns G M id = ((vLoop (PVg A ns G) (coneL ns id) M).1, if (vLoop (PVg A ns G) (coneL ns id) M).2 = 0 then kn (vLoop (PVg A ns G) (coneL ns id) M).1 id else zBt, (vLoop (PVg A ns G) (coneL ns id) M).2) := by unfold vG; rw [hy]; simp [hL]
   rw [e]
   refine val_loop (I := fun _ M' => ∀ p ∈ M', Bk p.2) HG hw hid hy rfl hL (fun p hp => by have := hr p hp; omega) ?_ hM ?_ rfl rfl
   ·intro k p M' wx hk hI hg hW
    have hp := hr p (List.mem_of_getElem? hk)
    obtain ⟨i, rfl⟩ : ∃ i : Nat, p = (i : Int) + 1 := ⟨(p - 1).toNat, by omega⟩
    obtain ⟨n, hn⟩ : ∃ n, ns[i]? = some n := ⟨_, List.getElem?_eq_getElem (by omega)⟩
    have hkd := hgr.inv.kids i n hn
    have hm := List.mem_of_getElem? hn
    exact pvg hA (HG.out wx hg) hW hn hG hI (by unfold w64; omega) (by unfold w64; omega) (by unfold w64; omega) (hN.ps n hm) (hN.ars n hm) (by unfold w64; omega)
   ·intro k p M' hk hI
    refine ⟨fun _ => hI, fun _ h0 q hq => ?_⟩
    rcases List.mem_append.1 hq with hq | hq
    ·exact hI q hq
    ·rw [List.mem_singleton.1 hq]; exact pvg_bk hA hN hG hI h0
open Go.RowKit
def Kid (n : Nd) (j : Nat) : Prop := (j : Int) = n.a ∨ (j : Int) = n.b ∨ (j : Int) = n.c
inductive Rch (ns : List Nd) (id : Nat) : Nat → Prop
 | here : Rch ns id id
 | step {i j : Nat} {n : Nd} : Rch ns id i → 1 ≤ i → ns[i - 1]? = some n → Kid n j → Rch ns id j
theorem kid_lt {ns : List Nd} (hv : Inv ns) {i j : Nat} {n : Nd} (h1 : 1 ≤ i) (hn : ns[i - 1]? = some n) (hk : Kid n j) : j < i := by
 have := hv.kids (i - 1) n hn
 rcases hk with h | h | h <;> omega
theorem Rch.le {ns : List Nd} (hv : Inv ns) {id j : Nat} (h : Rch ns id j) : j ≤ id := by
 induction h with
 | here => exact Nat.le_refl _
 | step _ h1 hn hk ih => have := kid_lt hv h1 hn hk; omega
theorem Rch.nought {ns : List Nd} (hv : Inv ns) {j : Nat} (h : Rch ns 0 j) : j = 0 := by have := h.le hv; omega
structure Way (ns : List Nd) (id t : Nat) : Prop where
 only : ∀ j, (dn ns id t).1 j = true → Rch ns id j
 top : (dn ns id t).1 id = true
 shut : ∀ (i : Nat) (n : Nd), id - t < i → i ≤ id → (dn ns id t).1 i = true → ns[i - 1]? = some n → ∀ j, Kid n j → (dn ns id t).1 j = true
 list : (dn ns id t).2.reverse = ((List.range' (id - t + 1) t).filter (dn ns id t).1).map (fun j : Nat => (j : Int))
theorem way_any {ns : List Nd} (hv : Inv ns) {id : Nat} (hid : id ≤ ns.length) : ∀ t, t ≤ id → Way ns id t
 | 0, _ => ⟨fun j hj => by
   have : j = id := of_decide_eq_true hj
   rw [this]; exact .here, decide_eq_true rfl, fun i n h1 h2 => by omega, rfl⟩
 | t + 1, ht => by
  have ih := way_any hv hid t (by omega)
  obtain ⟨k, hk⟩ : ∃ k, id = k + 1 + t := ⟨id - t - 1, by omega⟩
  have e1 : id - (k + 1) = t := by omega
  have e2 : id - k = t + 1 := by omega
  have e3 : id - t = k + 1 := by omega
  have e4 : id - (t + 1) = k := by omega
  obtain ⟨n, hn⟩ : ∃ n, ns[k]? = some n := ⟨_, List.getElem?_eq_getElem (by omega)⟩
  have er : List.range' (k + 1) (t + 1) = (k + 1) :: List.range' (k + 1 + 1) t := rfl
  have hl := ih.list
  rw [e3] at hl
  by_cases hm : (dn ns id t).1 (k + 1) = true
  ·have h := dn_yes (ns := ns) (id := id) (k := k) (by omega) (by rw [e1]; exact hm) hn
   rw [e1, e2] at h
   have hM : ∀ j, (dn ns id (t + 1)).1 j = true ↔ ((dn ns id t).1 j = true ∨ Kid n j) := fun j => by
    rw [h]
    simp only [Bool.or_eq_true, decide_eq_true_eq, Kid]
    constructor
    ·rintro (((h | h) | h) | h)
     ·exact Or.inl h
     ·exact Or.inr (Or.inl h)
     ·exact Or.inr (Or.inr (Or.inl h))
     ·exact Or.inr (Or.inr (Or.inr h))
    ·rintro (h | h | h | h)
     ·exact Or.inl (Or.inl (Or.inl h))
     ·exact Or.inl (Or.inl (Or.inr h))
     ·exact Or.inl (Or.inr h)
     ·exact Or.inr h
   have hL : (dn ns id (t + 1)).2 = (dn ns id t).2 ++ [((k + 1 : Nat) : Int)] := by rw [h]; rfl
   have hkid : ∀ j, Kid n j → j < k + 1 := fun j hj => kid_lt hv (i := k + 1) (by omega) (by simpa using hn) hj
   refine ⟨fun j hj => ?_, (hM _).2 (Or.inl ih.top), fun i n' h1 h2 hi hn' j hj => ?_, ?_⟩
   ·rcases (hM j).1 hj with h | h
    ·exact ih.only j h
    ·exact .step (ih.only _ hm) (by omega) (by simpa using hn) h
   ·rw [e4] at h1
    by_cases hik : i = k + 1
    ·subst hik
     have : n' = n := by simpa [hn] using hn'.symm
     subst this
     exact (hM j).2 (Or.inr hj)
    ·have hi' : (dn ns id t).1 i = true := by
      rcases (hM i).1 hi with h | h
      ·exact h
      ·have := hkid i h; omega
     exact (hM j).2 (Or.inl (ih.shut i n' (by omega) h2 hi' hn' j hj))
   ·rw [hL, List.reverse_append, hl, e4, er]
    have hf : (List.range' (k + 1 + 1) t).filter (dn ns id (t + 1)).1 = (List.range' (k + 1 + 1) t).filter (dn ns id t).1 := by
     apply List.filter_congr
     intro j hj
     have hj' : k + 1 + 1 ≤ j := (List.mem_range'_1.1 hj).1
     cases e : (dn ns id t).1 j
     ·cases e' : (dn ns id (t + 1)).1 j
      ·rfl
      ·rcases (hM j).1 e' with h | h
       ·rw [e] at h; cases h
       ·have := hkid j h; omega
     ·exact (hM j).2 (Or.inl e)
    rw [List.filter_cons, if_pos ((hM _).2 (Or.inl hm)), hf]
    rfl
  ·rw [Bool.not_eq_true] at hm
   have h := dn_no (ns := ns) (id := id) (k := k) (by omega) (by rw [e1]; exact hm)
   rw [e1, e2] at h
   refine ⟨fun j hj => ih.only j (by rw [h] at hj; exact hj), by rw [h]; exact ih.top, fun i n' h1 h2 hi hn' j hj => ?_, ?_⟩
   ·rw [e4] at h1
    rw [h] at hi ⊢
    by_cases hik : i = k + 1
    ·subst hik; rw [hm] at hi; cases hi
    ·exact ih.shut i n' (by omega) h2 hi hn' j hj
   ·rw [h, hl, e4, er, List.filter_cons, if_neg (by rw [hm]; decide)]
theorem cone_list {ns : List Nd} (hv : Inv ns) {id : Nat} (hid : id ≤ ns.length) : coneF ns id = ((List.range' 1 id).filter (dn ns id id).1).map (fun j : Nat => (j : Int)) := by
 have h := (way_any hv hid id (Nat.le_refl _)).list
 rw [Nat.sub_self] at h
 exact h
theorem mark_iff {ns : List Nd} (hv : Inv ns) {id : Nat} (hid : id ≤ ns.length) {j : Nat} : (dn ns id id).1 j = true ↔ Rch ns id j := by
 have hw := way_any hv hid id (Nat.le_refl _)
 refine ⟨hw.only j, fun h => ?_⟩
 induction h with
 | here => exact hw.top
 | step hr h1 hn hk ih => exact hw.shut _ _ (by omega) (hr.le hv) ih hn _ hk
theorem mem_cone {ns : List Nd} (hv : Inv ns) {id : Nat} (hid : id ≤ ns.length) {j : Nat} : (j : Int) ∈ coneF ns id ↔ 1 ≤ j ∧ Rch ns id j := by
 rw [cone_list hv hid]
 constructor
 ·intro h
  obtain ⟨x, hx, e⟩ := List.mem_map.1 h
  obtain rfl : x = j := by have e1 : (x : Int) = j := e; omega
  obtain ⟨h1, h2⟩ := List.mem_filter.1 hx
  exact ⟨(List.mem_range'_1.1 h1).1, (mark_iff hv hid).1 h2⟩
 ·rintro ⟨h1, h2⟩
  refine List.mem_map.2 ⟨j, List.mem_filter.2 ⟨List.mem_range'_1.2 ⟨h1, ?_⟩, (mark_iff hv hid).2 h2⟩, rfl⟩
  have := h2.le hv
  omega
theorem cone_in {ns : List Nd} (hv : Inv ns) {i x : Int} (h : x ∈ coneL ns i) : 1 ≤ x ∧ x ≤ i ∧ i ≤ (ns.length : Int) := by
 unfold coneL at h
 split at h
 ·rename_i hb
  have hb' : 1 ≤ i ∧ i ≤ (ns.length : Int) := by simpa [hasB] using hb
  have hid : i.toNat ≤ ns.length := by omega
  rw [cone_list hv hid] at h
  obtain ⟨y, hy, rfl⟩ := List.mem_map.1 h
  obtain ⟨h1, -⟩ := List.mem_filter.1 hy
  have := List.mem_range'_1.1 h1
  omega
 ·cases h
theorem mem_coneL {ns : List Nd} (hv : Inv ns) {i j : Nat} (h1 : 1 ≤ j) (hi : i ≤ ns.length) : (j : Int) ∈ coneL ns (i : Int) ↔ Rch ns i j := by
 unfold coneL
 by_cases h0 : 1 ≤ i
 ·rw [if_pos (by simp [hasB]; omega), Int.toNat_natCast, mem_cone hv hi]
  exact ⟨fun h => h.2, fun h => ⟨h1, h⟩⟩
 ·obtain rfl : i = 0 := by omega
  rw [if_neg (by simp [hasB])]
  exact ⟨(fun h => nomatch h), fun h => by have := h.nought hv; omega⟩
open Go.RowKit
def used (n : Nd) : List Int := [n.a, n.b, n.c].take (ari n.op).toNat
structure Sok (ns : List Nd) : Prop where
 cst : ∀ n ∈ ns, n.op = 1 → sof ⟨n.w, n.lo, n.hi⟩ = n.s
 ops : ∀ n ∈ ns, ¬ n.op = 1 → ¬ n.op = 2 → srtF n.op n.p n.q ((used n).map (sAt ns)) = (n.s, 0)
def Kok (ns : List Nd) (M : List (Int × Bt)) : Prop := (∀ p ∈ M, Bk p.2) ∧ ∀ q v, getM M q = some v → sof v = sAt ns q
theorem getM_app (M : List (Int × Bt)) (p q : Int) (v : Bt) : getM (M ++ [(p, v)]) q = (getM M q).or (if p = q then some v else none) := by
 unfold getM
 rw [List.find?_append]
 cases h : List.find? (fun x => decide (x.1 = q)) M with
 | some x => simp
 | none =>
  by_cases e : p = q
  ·simp [e]
  ·simp [e]
theorem getM_mono {M : List (Int × Bt)} {p q : Int} {v : Bt} (h : (getM M q).isSome = true) : (getM (M ++ [(p, v)]) q).isSome = true := by
 rw [getM_app]
 cases e : getM M q with
 | some x => rfl
 | none => rw [e] at h; cases h
theorem getM_last (M : List (Int × Bt)) (p : Int) (v : Bt) : (getM (M ++ [(p, v)]) p).isSome = true := by
 rw [getM_app]
 cases getM M p <;> simp
def Good (ns : List Nd) (G : List (Int × Bt)) (p : Int) (n : Nd) : Prop := ns[(p - 1).toNat]? = some n ∧ 1 ≤ p ∧ (n.op = 2 → fits G p n.s = true)
theorem sAt_is {ns : List Nd} {p : Int} {n : Nd} (h : ns[(p - 1).toNat]? = some n) : sAt ns p = n.s := by unfold sAt; rw [h]; rfl
theorem fits_sof {G : List (Int × Bt)} {p s : Int} (h : fits G p s = true) : sof (kn G p) = s := by
 unfold fits at h
 simp only [Bool.and_eq_true, decide_eq_true_eq] at h
 unfold sof kn
 rw [if_pos h.1.2]; exact h.2
theorem pv_ok {A : Int → Int → Int → List Bt → Bt × Int} (hA : ApF A) {ns : List Nd} (hN : Nok ns) (hS : Sok ns) {G M : List (Int × Bt)} (hK : Kok ns M) {p : Int} {n : Nd} (hg : Good ns G p n) (hu : ∀ q ∈ used n, (getM M q).isSome = true) :
  (PVg A ns G M p).2 = 0 ∧ sof (PVg A ns G M p).1 = n.s := by
 obtain ⟨hn, -, hv⟩ := hg
 have hm := List.mem_of_getElem? hn
 unfold PVg
 rw [hn]
 simp only
 by_cases h1 : n.op = 1
 ·rw [if_pos h1]; exact ⟨rfl, hS.cst n hm h1⟩
 ·rw [if_neg h1]
  by_cases h2 : n.op = 2
  ·rw [if_pos h2, hv h2]; exact ⟨rfl, fits_sof (hv h2)⟩
  ·rw [if_neg h2]
   have e : ([n.a, n.b, n.c].map (kn M)).take (ari n.op).toNat = (used n).map (kn M) := by unfold used; rw [List.map_take]
   have har := hN.ars n hm
   have hlen : (used n).length = (ari n.op).toNat := by unfold used; rw [List.length_take]; simp; omega
   rw [e]
   have hsort : ((used n).map (kn M)).map sof = (used n).map (sAt ns) := by
    rw [List.map_map]
    refine List.map_congr_left fun q hq => ?_
    obtain ⟨v, hv⟩ := Option.isSome_iff_exists.1 (hu q hq)
    show sof (kn M q) = sAt ns q
    unfold kn
    rw [hv]; exact hK.2 q v hv
   have hF := hA n.op n.p n.q ((used n).map (kn M)) (fun b hb => by
    obtain ⟨i, -, rfl⟩ := List.mem_map.1 hb
    exact kn_bk hK.1 i) (by rw [List.length_map, hlen]; omega) (fun q => by
     have := congrArg List.length q
     rw [List.length_map, hlen] at this
     simp at this; omega) (hN.ps n hm)
   have hfit := hF.2.1 n.s (by rw [hsort]; exact hS.ops n hm h1 h2)
   exact ⟨hfit.1, hfit.2.2⟩
theorem vloop_ok {A : Int → Int → Int → List Bt → Bt × Int} (hA : ApF A) {ns : List Nd} (hN : Nok ns) (hS : Sok ns) {G : List (Int × Bt)} (hG : ∀ p ∈ G, Bk p.2) :
  ∀ (L : List Int) (M : List (Int × Bt)), Kok ns M → (∀ (j : Nat) (p : Int), L[j]? = some p → ∃ n, Good ns G p n ∧ ∀ q ∈ used n, (getM M q).isSome = true ∨ ∃ i, i < j ∧ L[i]? = some q) →
   (vLoop (PVg A ns G) L M).2 = 0 ∧ Kok ns (vLoop (PVg A ns G) L M).1 ∧ ∀ p, ((getM M p).isSome = true ∨ p ∈ L) → (getM (vLoop (PVg A ns G) L M).1 p).isSome = true
 | [], M, hK, _ => ⟨rfl, hK, fun p hp => by
   rcases hp with hp | hp
   ·exact hp
   ·cases hp⟩
 | p :: ps, M, hK, hL => by
  obtain ⟨n, hg, hu⟩ := hL 0 p rfl
  have hu' : ∀ q ∈ used n, (getM M q).isSome = true := fun q hq => by
   rcases hu q hq with h | ⟨i, hi, -⟩
   ·exact h
   ·omega
  have shift : ∀ M' : List (Int × Bt), (∀ q, (getM M q).isSome = true → (getM M' q).isSome = true) → (getM M' p).isSome = true → ∀ (j : Nat) (x : Int), ps[j]? = some x → ∃ n, Good ns G x n ∧ ∀ q ∈ used n, (getM M' q).isSome = true ∨ ∃ i, i < j ∧ ps[i]? = some q := by
   intro M' hmono hp j x hx
   obtain ⟨m, hm, hum⟩ := hL (j + 1) x hx
   refine ⟨m, hm, fun q hq => ?_⟩
   rcases hum q hq with h | ⟨i, hi, hiq⟩
   ·exact Or.inl (hmono q h)
   ·cases i with
    | zero =>
     have : p = q := Option.some.inj hiq
     subst this
     exact Or.inl hp
    | succ i => exact Or.inr ⟨i, by omega, hiq⟩
  by_cases hk : (getM M p).isSome = true
  ·have e : vLoop (PVg A ns G) (p :: ps) M = vLoop (PVg A ns G) ps M := by simp only [vLoop]; rw [if_pos hk]
   rw [e]
   obtain ⟨c1, c2, c3⟩ := vloop_ok hA hN hS hG ps M hK (shift M (fun _ h => h) hk)
   refine ⟨c1, c2, fun q hq => ?_⟩
   rcases hq with hq | hq
   ·exact c3 q (Or.inl hq)
   ·rcases List.mem_cons.1 hq with rfl | hq
    ·exact c3 _ (Or.inl hk)
    ·exact c3 q (Or.inr hq)
  ·obtain ⟨p0, ps'⟩ := pv_ok hA hN hS hK hg hu'
   have e : vLoop (PVg A ns G) (p :: ps) M = vLoop (PVg A ns G) ps (M ++ [(p, (PVg A ns G M p).1)]) := by simp only [vLoop]; rw [if_neg hk, if_pos p0]
   rw [e]
   have hno : getM M p = none := by cases h : getM M p with
    | none => rfl
    | some x => rw [h] at hk; exact absurd rfl hk
   have hK' : Kok ns (M ++ [(p, (PVg A ns G M p).1)]) := by
    refine ⟨fun x hx => ?_, fun q v hv => ?_⟩
    ·rcases List.mem_append.1 hx with hx | hx
     ·exact hK.1 x hx
     ·rw [List.mem_singleton.1 hx]; exact pvg_bk hA hN hG hK.1 p0
    ·rw [getM_app] at hv
     cases hq : getM M q with
     | some x =>
      rw [hq] at hv
      have : x = v := by simpa using hv
      subst this
      exact hK.2 q x hq
     | none =>
      rw [hq] at hv
      by_cases hpq : p = q
      ·subst hpq
       have : (PVg A ns G M p).1 = v := by simpa using hv
       rw [← this, ps', sAt_is hg.1]
      ·simp [hpq] at hv
   obtain ⟨c1, c2, c3⟩ := vloop_ok hA hN hS hG ps _ hK' (shift _ (fun q h => getM_mono h) (getM_last _ _ _))
   refine ⟨c1, c2, fun q hq => ?_⟩
   rcases hq with hq | hq
   ·exact c3 q (Or.inl (getM_mono hq))
   ·rcases List.mem_cons.1 hq with rfl | hq
    ·exact c3 _ (Or.inl (getM_last _ _ _))
    ·exact c3 q (Or.inr hq)
open Go.RowKit
theorem cone_rises {ns : List Nd} (hv : Inv ns) (id : Int) : (coneL ns id).Pairwise (· < ·) := by
 unfold coneL
 split
 ·rename_i hb
  have hb' : 1 ≤ id ∧ id ≤ (ns.length : Int) := by simpa [hasB] using hb
  rw [cone_list hv (by omega), List.pairwise_map]
  refine List.Pairwise.filter _ ?_
  refine (List.pairwise_lt_range' (s := 1) (n := id.toNat)).imp ?_
  intro a b h
  omega
 ·exact List.Pairwise.nil
theorem idx_lt {L : List Int} (hL : L.Pairwise (· < ·)) {j : Nat} {p q : Int} (hj : L[j]? = some p) (hq : q ∈ L) (h : q < p) : ∃ i, i < j ∧ L[i]? = some q := by
 obtain ⟨i, hi, rfl⟩ := List.getElem_of_mem hq
 refine ⟨i, ?_, List.getElem?_eq_getElem hi⟩
 obtain ⟨hjl, hje⟩ := List.getElem?_eq_some_iff.1 hj
 apply Classical.byContradiction
 intro hn
 by_cases e : i = j
 ·subst e; omega
 ·have := List.pairwise_iff_getElem.1 hL j i hjl hi (by omega)
  omega
def Upo (ns : List Nd) : Prop := ∀ n ∈ ns, ∀ q ∈ used n, 1 ≤ q
theorem used_kid {n : Nd} {q : Int} (h : q ∈ used n) : q = n.a ∨ q = n.b ∨ q = n.c := by
 have := List.mem_of_mem_take h
 simpa using this
theorem cone_shut {ns : List Nd} (hv : Inv ns) (hU : Upo ns) {id : Nat} (hid : id ≤ ns.length) {G M : List (Int × Bt)} (hf : ∀ (i : Nat) (n : Nd), ((i : Int) + 1) ∈ coneL ns (id : Int) → ns[i]? = some n → n.op = 2 → fits G ((i : Int) + 1) n.s = true) :
  ∀ (j : Nat) (p : Int), (coneL ns (id : Int))[j]? = some p → ∃ n, Good ns G p n ∧ ∀ q ∈ used n, (getM M q).isSome = true ∨ ∃ i, i < j ∧ (coneL ns (id : Int))[i]? = some q := by
 intro j p hp
 have hin := cone_in hv (List.mem_of_getElem? hp)
 obtain ⟨i, rfl⟩ : ∃ i : Nat, p = (i : Int) + 1 := ⟨(p - 1).toNat, by omega⟩
 have e : ((i : Int) + 1 - 1).toNat = i := by omega
 obtain ⟨n, hn⟩ : ∃ n, ns[i]? = some n := ⟨_, List.getElem?_eq_getElem (by omega)⟩
 refine ⟨n, ⟨by rw [e]; exact hn, by omega, fun h2 => hf i n (List.mem_of_getElem? hp) hn h2⟩, fun q hq => Or.inr ?_⟩
 have hq1 := hU n (List.mem_of_getElem? hn) q hq
 have hkid := used_kid hq
 have hk := hv.kids i n hn
 obtain ⟨k, rfl⟩ : ∃ k : Nat, q = (k : Int) := ⟨q.toNat, by omega⟩
 have hr : Rch ns id (i + 1) := (mem_coneL hv (by omega) hid).1 (List.mem_of_getElem? hp)
 have hr2 : Rch ns id k := .step hr (by omega) (by rw [show i + 1 - 1 = i by omega]; exact hn) hkid
 exact idx_lt (cone_rises hv _) hp ((mem_coneL hv (by omega) hid).2 hr2) (by omega)
theorem vG_ok {A : Int → Int → Int → List Bt → Bt × Int} (hA : ApF A) {ns : List Nd} (hv : Inv ns) (hN : Nok ns) (hS : Sok ns) (hU : Upo ns) {G M : List (Int × Bt)} (hG : ∀ p ∈ G, Bk p.2) (hK : Kok ns M) {id : Nat} (h1 : 1 ≤ id) (hid : id ≤ ns.length)
  (hf : ∀ (i : Nat) (n : Nd), ((i : Int) + 1) ∈ coneL ns (id : Int) → ns[i]? = some n → n.op = 2 → fits G ((i : Int) + 1) n.s = true) :
  (vG A ns G M (id : Int)).2.2 = 0 ∧ Kok ns (vG A ns G M (id : Int)).1 ∧ sof (vG A ns G M (id : Int)).2.1 = sAt ns (id : Int) := by
 unfold vG
 cases hy : getM M (id : Int) with
 | some y => exact ⟨rfl, hK, hK.2 _ y hy⟩
 | none =>
  have hne : ¬ coneL ns (id : Int) = [] := by
   intro e
   have : ((id : Nat) : Int) ∈ coneL ns (id : Int) := (mem_coneL hv h1 hid).2 .here
   rw [e] at this; cases this
  simp only [hne, if_false]
  obtain ⟨c1, c2, c3⟩ := vloop_ok hA hN hS hG (coneL ns (id : Int)) M hK (cone_shut hv hU hid hf)
  refine ⟨c1, c2, ?_⟩
  rw [if_pos c1]
  obtain ⟨v, hv2⟩ := Option.isSome_iff_exists.1 (c3 _ (Or.inr ((mem_coneL hv h1 hid).2 .here)))
  unfold kn
  rw [hv2]
  exact c2.2 _ v hv2
theorem vLoop_same {P Q : List (Int × Bt) → Int → Bt × Int} : ∀ (L : List Int) (M : List (Int × Bt)), (∀ M' p, p ∈ L → P M' p = Q M' p) → vLoop P L M = vLoop Q L M
 | [], _, _ => rfl
 | p :: ps, M, h => by
  simp only [vLoop]
  rw [h M p (by simp), vLoop_same ps M (fun M' q hq => h M' q (List.mem_cons_of_mem _ hq)), vLoop_same ps (M ++ [(p, (Q M p).1)]) (fun M' q hq => h M' q (List.mem_cons_of_mem _ hq))]
theorem vG_same {A : Int → Int → Int → List Bt → Bt × Int} {ns : List Nd} {G G' M : List (Int × Bt)} {id : Int}
  (hf : ∀ p ∈ coneL ns id, ∀ n, ns[(p - 1).toNat]? = some n → n.op = 2 → fits G p n.s = fits G' p n.s ∧ kn G p = kn G' p) : vG A ns G M id = vG A ns G' M id := by
 have e := vLoop_same (P := PVg A ns G) (Q := PVg A ns G') (coneL ns id) M (fun M' p hp => by
  unfold PVg
  split
  ·rfl
  ·rename_i n hn
   split
   ·rfl
   ·split
    ·rename_i h2
     obtain ⟨h3, h4⟩ := hf p hp n hn h2
     rw [h3, h4]
    ·rfl)
 unfold vG
 rw [e]
open Go.RowKit
def Lv (w : World) (g o : Nat) (l : List Nv) : Prop := ∀ (j : Nat) (x : Nv), l[j]? = some x → ∀ t u, x.cs[t]? = some u → w.cell? ⟨g, o + j * 4 + t, none⟩ = some u
theorem named_same {w : World} {g o c g' o' c' : Nat} {l : List Nv} (h : Lv w g o l) (h' : Lv w g' o' l) (hl : l.length ≤ 100000) (hg : g < w.heap.size) (hg' : g' < w.heap.size) :
  Rt 12 #[.slice (some ⟨g, o, none⟩) l.length c, .slice (some ⟨g', o', none⟩) l.length c'] w (.bool true) := by
 have HC : Hid _ := h
 have HD : Hid _ := h'
 obtain ⟨n, hn⟩ : ∃ n, n = l.length := ⟨_, rfl⟩
 rw [← hn] at hl ⊢
 have HN : Hid _ := hn
 clear h h' hn
 have z1 : ((n : Int) == n) = true := by simp
 have y1 : ((n : Int) != n) = false := by simp
 go_enter Tryz.func12, Tryz.ntmps12
 go_wp2_with fail
 go_loopw [5] (fun i wr => ∃ k : Nat, k ≤ n ∧ i = .int .i64 (k : Int) ∧ Below w.heap.size w wr) (fun i wr => n - (intOf i).toNat)
 case atStart => exact ⟨0, Nat.zero_le _, rfl, Below.refl _ _⟩
 case round =>
  obtain ⟨k, hk, rfl, hbl⟩ := hrel
  by_cases hlt : k < n
  ·obtain ⟨x, hx⟩ : ∃ x, l[k]? = some x := ⟨_, List.getElem?_eq_getElem (by rw [← HN.out]; exact hlt)⟩
   have q1 := HC.out k x hx
   have q2 := HD.out k x hx
   have a0 : wr.cell? ⟨g, o + k * 4, none⟩ = some (.string x.nm) := bel_cell hbl hg (q1 0 _ rfl)
   have a1 : wr.cell? ⟨g, o + k * 4 + 1, none⟩ = some (.int .i64 x.v.w) := bel_cell hbl hg (q1 1 _ rfl)
   have a2 : wr.cell? ⟨g, o + k * 4 + 2, none⟩ = some (.int .u64 x.v.lo) := bel_cell hbl hg (q1 2 _ rfl)
   have a3 : wr.cell? ⟨g, o + k * 4 + 3, none⟩ = some (.int .u64 x.v.hi) := bel_cell hbl hg (q1 3 _ rfl)
   have b0 : wr.cell? ⟨g', o' + k * 4, none⟩ = some (.string x.nm) := bel_cell hbl hg' (q2 0 _ rfl)
   have b1 : wr.cell? ⟨g', o' + k * 4 + 1, none⟩ = some (.int .i64 x.v.w) := bel_cell hbl hg' (q2 1 _ rfl)
   have b2 : wr.cell? ⟨g', o' + k * 4 + 2, none⟩ = some (.int .u64 x.v.lo) := bel_cell hbl hg' (q2 2 _ rfl)
   have b3 : wr.cell? ⟨g', o' + k * 4 + 3, none⟩ = some (.int .u64 x.v.hi) := bel_cell hbl hg' (q2 3 _ rfl)
   have hltI : (k : Int) < (n : Int) := by omega
   clear hx q1 q2
   go_wp2_with fail
   go_region_held3 (fun y => y.cell? ⟨g, o + k * 4, none⟩ = some (.string x.nm) ∧ y.cell? ⟨g, o + k * 4 + 1, none⟩ = some (.int .i64 x.v.w) ∧ y.cell? ⟨g, o + k * 4 + 2, none⟩ = some (.int .u64 x.v.lo) ∧ y.cell? ⟨g, o + k * 4 + 3, none⟩ = some (.int .u64 x.v.hi) ∧ y.cell? ⟨g', o' + k * 4, none⟩ = some (.string x.nm) ∧ y.cell? ⟨g', o' + k * 4 + 1, none⟩ = some (.int .i64 x.v.w) ∧ y.cell? ⟨g', o' + k * 4 + 2, none⟩ = some (.int .u64 x.v.lo) ∧ y.cell? ⟨g', o' + k * 4 + 3, none⟩ = some (.int .u64 x.v.hi))
    ((refine ⟨?_, ?_, ?_, ?_, ?_, ?_, ?_, ?_⟩ <;> simp [go_sem, a0, a1, a2, a3, b0, b1, b2, b3]))
    (fail)
   go_wp2_with fail
   exact ⟨⟨k + 1, by omega, by go_num, hbl.drew⟩, by simp [intOf]; omega⟩
  ·obtain rfl : k = n := by omega
   have hltI : ¬ (k : Int) < (k : Int) := by omega
   go_wp2_with fail
   go_ret
   exact ⟨rfl, hbl⟩
open Go.RowKit
def b9 : Bt := ⟨4, 9, 0⟩
def b2 : Bt := ⟨4, 2, 0⟩
def M3 : Nd := ⟨29, 0, 1, 2, 0, 0, 0, 0, 0, 0, ⟨#[]⟩⟩
def K3 : List Nd := [N1, N2, M3]
def FL3 : List (Int × Bt) := [(1, b9), (2, b2), (3, zBt)]
def pvk (p : Int) : Bt := if p = 1 then b9 else if p = 2 then b2 else zBt
theorem bk9 : Bk b9 := ⟨by decide, by decide, by decide, by decide⟩
theorem bk2 : Bk b2 := ⟨by decide, by decide, by decide, by decide⟩
theorem Lb.two {w : World} {g o : Nat} {a b c : Bt} (h : Lb w g o [a, b, c]) : Lb w g o [a, b] := fun j x hj t u hu => h j x (by
 match j, hj with
 | 0, hj => exact hj
 | 1, hj => exact hj
 | k + 2, hj => simp at hj) t u hu
theorem wd9 : Wd 4 9 0 4 9 := ⟨by decide, by decide, by decide, rfl, rfl, rfl⟩
theorem wd2 : Wd 4 2 0 4 2 := ⟨by decide, by decide, by decide, rfl, rfl, rfl⟩
section
variable {w : World} {B g mi mv mo wb mg mk : Nat} {v : Value} {G M : List (Int × Bt)}
theorem pk1 (h : Gr w B g mi mv v mo K3) (hw : Wk w wb g mg mk [(1, b9)] M) :
  Rt 48 #[.pointer (some ⟨wb, 0, none⟩), .int .i64 1] w (.tuple #[.agg #[.int .i64 b9.w, .int .u64 b9.lo, .int .u64 b9.hi], .int .i64 0]) :=
 pv_var (i := 0) (n := N1) (u := b9) (ok := true) h hw rfl rfl (fun wx hb => fit_any (hw.below hb).gv (by unfold w64; decide) (fun p hp => by rw [List.mem_singleton.1 hp]; exact bk9))
theorem pk1n (h : Gr w B g mi mv v mo K3) (hw : Wk w wb g mg mk [] M) :
  Rt 48 #[.pointer (some ⟨wb, 0, none⟩), .int .i64 1] w (.tuple #[.agg #[.int .i64 zBt.w, .int .u64 zBt.lo, .int .u64 zBt.hi], .int .i64 41]) :=
 pv_var (i := 0) (n := N1) (u := zBt) (ok := false) h hw rfl rfl (fun wx hb => fit_any (hw.below hb).gv (by unfold w64; decide) (fun p hp => nomatch hp))
theorem pk2 (h : Gr w B g mi mv v mo K3) (hw : Wk w wb g mg mk G M) (h1 : getM M 1 = some b9) :
  Rt 48 #[.pointer (some ⟨wb, 0, none⟩), .int .i64 2] w (.tuple #[.agg #[.int .i64 b2.w, .int .u64 b2.lo, .int .u64 b2.hi], .int .i64 0]) :=
 pv_op2 (i := 1) (n := N2) (va := b9) (vb := b9) (vc := (getM M 0).getD zBt) (r := b2) (er := 0) h hw rfl (by decide) (by decide) (by unfold w64; decide) (by unfold w64; decide) (by unfold w64; decide) (by show b9 = (getM M 1).getD zBt; rw [h1]; rfl) (by show b9 = (getM M 1).getD zBt; rw [h1]; rfl) rfl
  (fun wx => arity_any 18 wx) (fun wx gb _ hgb hl => apply_two (s := 4) (by decide) (by decide) hl.two hgb bk9 bk9 (by decide) (fun wy => two_add wd9 wd9 wy))
theorem pk3 (h : Gr w B g mi mv v mo K3) (hw : Wk w wb g mg mk G M) (h1 : getM M 1 = some b9) (h2 : getM M 2 = some b2) :
  Rt 48 #[.pointer (some ⟨wb, 0, none⟩), .int .i64 3] w (.tuple #[.agg #[.int .i64 zBt.w, .int .u64 zBt.lo, .int .u64 zBt.hi], .int .i64 0]) :=
 pv_op2 (i := 2) (n := M3) (va := b9) (vb := b2) (vc := (getM M 0).getD zBt) (r := zBt) (er := 0) h hw rfl (by decide) (by decide) (by unfold w64; decide) (by unfold w64; decide) (by unfold w64; decide) (by show b9 = (getM M 1).getD zBt; rw [h1]; rfl) (by show b2 = (getM M 2).getD zBt; rw [h2]; rfl) rfl
  (fun wx => arity_any 29 wx) (fun wx gb _ hgb hl => apply_two (s := 0) (by decide) (by decide) hl.two hgb bk9 bk2 (by decide) (fun wy => two_cmp (k := 0) rfl (by decide) wd9 wd2 wy))
theorem vk (HG : Hid (∀ wx, w.grownBy wx (some mk) → Gr wx B g mi mv v mo K3)) {j id : Nat} (hc : (j = 0 ∧ (id = 1 ∨ id = 2 ∨ id = 3)) ∨ (j = 1 ∧ id = 2)) (hw : Wk w wb g mg mk [(1, b9)] (FL3.take j)) :
  Calls Tryz.prog 27 #[.pointer (some ⟨wb, 0, none⟩), .int .i64 (id : Int)] w fun e w' => e = .returned (.tuple #[.agg #[.int .i64 (pvk (id : Int)).w, .int .u64 (pvk (id : Int)).lo, .int .u64 (pvk (id : Int)).hi], .int .i64 0]) ∧ Wk w' wb g mg mk [(1, b9)] (FL3.take id) ∧ w.grownBy w' (some mk) := by
 refine val_loop (L := (List.range id).map fun (i : Nat) => (i : Int) + 1) (PV := fun _ p => (pvk p, 0)) (I := fun k M' => M' = FL3.take (max j k)) HG hw ?_ ?_ ?_ ?_ ?_ ?_ ?_ ?_ ?_ ?_
 ·rcases hc with ⟨rfl, rfl | rfl | rfl⟩ | ⟨rfl, rfl⟩ <;> (unfold w64; decide)
 ·rcases hc with ⟨rfl, rfl | rfl | rfl⟩ | ⟨rfl, rfl⟩ <;> rfl
 ·rcases hc with ⟨rfl, rfl | rfl | rfl⟩ | ⟨rfl, rfl⟩ <;> rfl
 ·rcases hc with ⟨rfl, rfl | rfl | rfl⟩ | ⟨rfl, rfl⟩ <;> decide
 ·rcases hc with ⟨rfl, rfl | rfl | rfl⟩ | ⟨rfl, rfl⟩ <;> decide
 ·intro k p M' wx hk hI hg hW
  subst hI
  have hG := HG.out wx hg
  have hkl : k < id := by
   have := (List.getElem?_eq_some_iff.1 hk).1
   simpa using this
  obtain rfl : (k : Int) + 1 = p := by
   rw [List.getElem?_map, List.getElem?_range hkl] at hk
   exact Option.some.inj hk
  have hk3 : k = 0 ∨ k = 1 ∨ k = 2 := by omega
  rcases hk3 with rfl | rfl | rfl
  ·exact pk1 hG hW
  ·refine pk2 hG hW ?_
   rcases hc with ⟨rfl, _⟩ | ⟨rfl, _⟩ <;> rfl
  ·refine pk3 hG hW ?_ ?_ <;> rcases hc with ⟨rfl, _⟩ | ⟨rfl, _⟩ <;> rfl
 ·rcases hc with ⟨rfl, _⟩ | ⟨rfl, _⟩ <;> rfl
 ·intro k p M' hk hI
  subst hI
  have hkl : k < id := by
   have := (List.getElem?_eq_some_iff.1 hk).1
   simpa using this
  obtain rfl : (k : Int) + 1 = p := by
   rw [List.getElem?_map, List.getElem?_range hkl] at hk
   exact Option.some.inj hk
  have hk3 : k = 0 ∨ k = 1 ∨ k = 2 := by omega
  rcases hc with ⟨rfl, _⟩ | ⟨rfl, _⟩ <;> rcases hk3 with rfl | rfl | rfl <;> first | exact ⟨(fun h => by cases h), (fun _ _ => rfl)⟩ | exact ⟨(fun _ => rfl), (fun h => by cases h)⟩ | omega
 ·rcases hc with ⟨rfl, rfl | rfl | rfl⟩ | ⟨rfl, rfl⟩ <;> rfl
 ·rcases hc with ⟨rfl, rfl | rfl | rfl⟩ | ⟨rfl, rfl⟩ <;> rfl
theorem vk3n (HG : Hid (∀ wx, w.grownBy wx (some mk) → Gr wx B g mi mv v mo K3)) (hw : Wk w wb g mg mk [] []) :
  Calls Tryz.prog 27 #[.pointer (some ⟨wb, 0, none⟩), .int .i64 3] w fun e w' => e = .returned (.tuple #[.agg #[.int .i64 zBt.w, .int .u64 zBt.lo, .int .u64 zBt.hi], .int .i64 41]) ∧ Wk w' wb g mg mk [] [] ∧ w.grownBy w' (some mk) := by
 refine val_loop (L := [1, 2, 3]) (PV := fun _ _ => (zBt, 41)) (I := fun k M' => k = 0 ∧ M' = []) HG hw (by unfold w64; decide) rfl rfl (by decide) (by decide) ?_ ⟨rfl, rfl⟩ ?_ rfl rfl
 ·rintro k p M' wx hk ⟨rfl, rfl⟩ hg hW
  obtain rfl : (1 : Int) = p := Option.some.inj hk
  exact pk1n (HG.out wx hg) hW
 ·rintro k p M' hk ⟨rfl, rfl⟩
  exact ⟨(fun h => by cases h), (fun _ h => by cases h)⟩
end
def Ex : Nv := ⟨⟨#[120]⟩, b9⟩
theorem fvE : fvF K3 [Ex] = [(1, b9)] := by rfl
theorem gr_of {w wx : World} {B g mi mv mo mk : Nat} {v : Value} {ns : List Nd} (h : Gr w B g mi mv v mo ns) (hb : Below w.heap.size w wx) (hmk : w.heap.size ≤ mk) : Hid (∀ wy, wx.grownBy wy (some mk) → Gr wy B g mi mv v mo ns) :=
 fun wy hy => h.kept fun k hk => (hy.block k (Nat.lt_of_lt_of_le hk hb.size) (fun e => by cases e; omega)).trans (hb.block k hk)
section
variable {w : World} {B g mi mv mo c : Nat} {v : Value} {a : Option Addr}
theorem ek (h : Gr w B g mi mv v mo K3) (he : Le w a [Ex]) {id : Nat} (hid : id = 1 ∨ id = 2 ∨ id = 3) :
  Rt 9 #[.pointer (some ⟨g, 0, none⟩), .int .i64 (id : Int), .slice a 1 c] w (.tuple #[.agg #[.int .i64 (pvk (id : Int)).w, .int .u64 (pvk (id : Int)).lo, .int .u64 (pvk (id : Int)).hi], .int .i64 0]) := by
 refine eval_of (l := [Ex]) h he (fun x hx => by rw [List.mem_singleton.1 hx]; decide) (by decide) ?_
 intro wx wb mg mk hb hmk hW
 rw [fvE] at hW
 exact (vk (gr_of h hb hmk) (j := 0) (Or.inl ⟨rfl, hid⟩) hW).mono (fun e w' hh => ⟨hh.1, hh.2.2⟩)
theorem ek4 (h : Gr w B g mi mv v mo K3) (he : Le w a [Ex]) :
  Rt 9 #[.pointer (some ⟨g, 0, none⟩), .int .i64 4, .slice a 1 c] w (.tuple #[.agg #[.int .i64 zBt.w, .int .u64 zBt.lo, .int .u64 zBt.hi], .int .i64 40]) := by
 refine eval_of (l := [Ex]) h he (fun x hx => by rw [List.mem_singleton.1 hx]; decide) (by decide) ?_
 intro wx wb mg mk hb hmk hW
 exact (val_none (h.below hb) hW (by unfold w64; decide) rfl rfl).mono (fun e w' hh => ⟨hh.1, gb_below hh.2⟩)
theorem ek3n (h : Gr w B g mi mv v mo K3) :
  Rt 9 #[.pointer (some ⟨g, 0, none⟩), .int .i64 3, .slice none 0 0] w (.tuple #[.agg #[.int .i64 zBt.w, .int .u64 zBt.lo, .int .u64 zBt.hi], .int .i64 41]) := by
 refine eval_of (l := []) (c := 0) h (Or.inl rfl) (fun x hx => nomatch hx) (by decide) ?_
 intro wx wb mg mk hb hmk hW
 exact (vk3n (gr_of h hb hmk) hW).mono (fun e w' hh => ⟨hh.1, hh.2.2⟩)
theorem ak (h : Gr w B g mi mv v mo K3) (he : Le w a [Ex]) {gi ci : Nat} (hids : Li w gi 0 [1, 2]) (hgi : gi < w.heap.size) :
  Calls Tryz.prog 11 #[.pointer (some ⟨g, 0, none⟩), .slice (some ⟨gi, 0, none⟩) 2 ci, .slice a 1 c] w fun e w' => ∃ u, e = .returned (.tuple #[u, .int .i64 0]) ∧ AllR w' w.heap.size u [b9, b2] 0 ∧ Below w.heap.size w w' := by
 refine all_of (l := [Ex]) (ids := [1, 2]) (VF := fun _ p => if p = 1 then (FL3.take 1, b9, 0) else (FL3.take 2, b2, 0)) (I := fun k M' => M' = FL3.take k) h he (fun x hx => by rw [List.mem_singleton.1 hx]; decide) (by decide) hids hgi (by decide) ?_ rfl ?_ rfl
 ·intro k p M' wx wb mg mk hk hI hbl hg hmk hW
  subst hI
  rw [fvE] at hW ⊢
  have hb : Below w.heap.size w wx := ⟨hg.os, hg.tape, hg.output, hg.size, hbl⟩
  match k, hk with
  | 0, hk =>
   obtain rfl : (1 : Int) = p := Option.some.inj hk
   exact vk (gr_of h hb hmk) (j := 0) (id := 1) (Or.inl ⟨rfl, Or.inl rfl⟩) hW
  | 1, hk =>
   obtain rfl : (2 : Int) = p := Option.some.inj hk
   exact vk (gr_of h hb hmk) (j := 1) (id := 2) (Or.inr ⟨rfl, rfl⟩) hW
  | k + 2, hk => simp at hk
 ·intro k p M' hk hI _
  match k, hk with
  | 0, hk =>
   obtain rfl : (1 : Int) = p := Option.some.inj hk
   rfl
  | 1, hk =>
   obtain rfl : (2 : Int) = p := Option.some.inj hk
   rfl
  | k + 2, hk => simp at hk
end
end Go.Proofs.YtejljdbkocnhlaaGreat
