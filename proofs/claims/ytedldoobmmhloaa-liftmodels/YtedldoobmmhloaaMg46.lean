import Derived.Test.YtedldoobmmhloaaEA15
import Derived.Deep.QuietTactic
import Derived.BigQuiet
import Derived.Test.YtedldoobmmhloaaEB6
namespace Go.Proofs.Ytedldoobmmhloaa
set_option maxHeartbeats 12800000
set_option maxRecDepth 100000
open Go.RowKit
set_option linter.unusedSimpArgs false
set_option linter.unusedVariables false
theorem fit_any {w : World} {b : Nat} {M : List (Int × Bt)} {id s : Int} (h : Bm w b M) (hk : w64 id) (hB : ∀ p ∈ M, Bk p.2) :
  Calls Try.prog 28 #[.map (some b), .int .i64 id, .int .i64 s] w fun e w' => e = .returned (.tuple #[.agg #[.int .i64 ((getM M id).getD zBt).w, .int .u64 ((getM M id).getD zBt).lo, .int .u64 ((getM M id).getD zBt).hi], .bool (fits M id s)]) ∧ Below w.heap.size w w' := by
 cases e : getM M id with
 | none =>
  have h1 := fit_no (s := s) h hk e
  unfold fits
  rw [e]
  exact h1
 | some v =>
  have hm : ∃ p ∈ M, p.2 = v := by
   unfold getM at e
   obtain ⟨x, hx, rfl⟩ := Option.map_eq_some_iff.1 e
   exact ⟨x, List.mem_of_find?_eq_some hx, rfl⟩
  obtain ⟨p, hp, rfl⟩ := hm
  have h1 := fit_yes (s := s) h hk e (hB p hp)
  exact h1
def Nv' (w : World) (base : Nat) (v : Value) (l : List Nv) : Prop := w.ownsRow base 62 4 v l.length (l.flatMap Nv.cs)
def cmpV (ns : List Nd) (G : List (Int × Bt)) (i : Int) : Nv := ⟨((ns[(i - 1).toNat]?).map Nd.nm).getD ⟨#[]⟩, if fits G i (sAt ns i) then (getM G i).getD zBt else ⟨sAt ns i, 0, 0⟩⟩
theorem infoN : (Try.prog.info? 62).map (fun i => (i.zero, i.size, i.bytes)) = some (some (.agg #[.string ⟨#[]⟩, .int .i64 0, .int .u64 0, .int .u64 0]), 4, 40) := by kernel_rfl
theorem underN : Try.prog.underlying 38 = some (.slice 62) := by kernel_rfl
theorem one_nv (x : Nv) : ∀ u ∈ x.cs, u.oneCell' = true := by
 intro u hu
 simp only [Nv.cs, List.mem_cons, List.not_mem_nil, or_false] at hu
 rcases hu with rfl | rfl | rfl | rfl <;> rfl
theorem cells_new4 {w : World} {x y z q : Value} {t : TypeId} {b : Nat} (hb : b = w.heap.size) : ∀ j u, [x, y, z, q][j]? = some u → (w.alloc (.cells #[x, y, z, q] t)).cell? ((⟨b, 0, none⟩ : Addr).add j) = some u := by
 subst hb
 intro j u hj
 have h := cell_of (heap_alloc_new w (.cells #[x, y, z, q] t)) j (v := u) (by simpa using hj)
 rw [show ((⟨w.heap.size, 0, none⟩ : Addr).add j) = ⟨w.heap.size, j, none⟩ by simp only [Addr.add]; split <;> simp_all]
 exact h
theorem mem_vsF {ns : List Nd} {p : Int} (h : p ∈ vsF ns) : ∃ (i : Nat) (n : Nd), p = (i : Int) + 1 ∧ ns[i]? = some n := by
 unfold vsF at h
 obtain ⟨x, hx, he⟩ := List.mem_filterMap.1 h
 rw [List.mem_mapIdx] at hx
 obtain ⟨i, hi, rfl⟩ := hx
 simp only at he
 split at he
 ·exact ⟨i, ns[i], (Option.some.inj he).symm, List.getElem?_eq_getElem hi⟩
 ·cases he
theorem comp_any {w : World} {B g mi mv mo c : Nat} {v : Value} {ns : List Nd} {a : Option Addr} {l : List Nv} (h : Gr w B g mi mv v mo ns) (hne : 0 < ns.length) (he : Le w a l) (hnm : ∀ x ∈ l, x.nm.size ≤ maxLen) (hl : l.length ≤ 1000) (hG : ∀ p ∈ fvF ns l, Bk p.2) :
  Calls Try.prog 17 #[.pointer (some ⟨g, 0, none⟩), .slice a l.length c] w fun e w' => ∃ u, e = .returned u ∧ Nv' w' w.heap.size u ((vsF ns).map (cmpV ns (fvF ns l))) ∧ Below w.heap.size w w' := by
 have HFV : Hid _ := fv_any (c := c) h he hnm hl
 have HVS : Hid (∀ wx, Below w.heap.size w wx → Calls Try.prog 27 #[.pointer (some ⟨g, 0, none⟩)] wx fun e w' => ∃ u, e = .returned u ∧ Is' w' wx.heap.size u (vsF ns) ∧ Below wx.heap.size wx w') := fun wx hb => vars_any (h.below hb) hne
 have HND : Hid (∀ (wx : World) (i : Nat) (n : Nd), Below w.heap.size w wx → ns[i]? = some n → Calls Try.prog 18 #[.pointer (some ⟨g, 0, none⟩), .int .i64 ((i : Int) + 1)] wx fun e w' => e = .returned (.tuple #[.agg #[.int .i64 n.op, .int .i64 n.s, .int .i64 n.a, .int .i64 n.b, .int .i64 n.c, .int .i64 n.p, .int .i64 n.q, .int .i64 n.w, .int .u64 n.lo, .int .u64 n.hi, .string n.nm], .bool true]) ∧ Below wx.heap.size wx w') := fun wx i n hb hi => node_yes (h.below hb) hi
 have hlen := h.len
 have hvl := vsF_len ns
 obtain ⟨n, hn⟩ : ∃ n, n = l.length := ⟨_, rfl⟩
 rw [← hn] at HFV ⊢
 obtain ⟨t0, ht0, hz0, hz1, hz2⟩ := info_parts infoN
 have HI : Hid (Try.prog.info? 62 = some t0 ∧ t0.zero = some (.agg #[.string ⟨#[]⟩, .int .i64 0, .int .u64 0, .int .u64 0]) ∧ t0.size = 4 ∧ t0.bytes = 40) := ⟨ht0, hz0, hz1, hz2⟩
 obtain ⟨G, hGe⟩ : ∃ G, G = fvF ns l := ⟨_, rfl⟩
 rw [← hGe] at HFV hG ⊢
 have HG : Hid _ := hG
 clear h he hnm hl hn ht0 hz0 hz1 hz2 hGe hG
 go_enter Try.func17, Try.ntmps17
 go_wp2_with fail
 refine Calls.mono HFV.out ?_
 rintro e w1 ⟨rfl, hM, hB⟩
 have HM : Hid _ := hM
 have hs1 : w.heap.size < w1.heap.size := hM.mp.lt
 clear hM
 go_wp2_with fail
 refine Calls.mono (HVS.out _ hB) ?_
 rintro e w2 ⟨u, rfl, hI, hb2⟩
 have hR := hI.rl (by omega)
 obtain ⟨ai, ci, rfl, -, -, hli⟩ := hR
 have HLI : Hid _ := hli
 have HM2 : Hid (Bm w2 w.heap.size G) := HM.out.kept (hb2.block _ hs1)
 have hB2 : Below w.heap.size w w2 := hB.trans (hb2.mono hB.size)
 have hs2 : w.heap.size < w2.heap.size := by have := hb2.size; omega
 obtain ⟨N, hN⟩ : ∃ N, N = (vsF ns).length := ⟨_, rfl⟩
 have HN : Hid _ := hN
 rw [← hN] at hvl ⊢
 clear hI hb2 hli hN HM hB
 go_wp2_with fail
 go_loopw [6, 19] (fun u i wr => ∃ k : Nat, k ≤ N ∧ i = .int .i64 (k : Int) ∧ Hid (Bm wr w.heap.size G ∧ Nv' wr w2.heap.size u (((vsF ns).take k).map (cmpV ns G)) ∧ Below w.heap.size w wr ∧ Below w2.heap.size w2 wr)) (fun u i wr => N - (intOf i).toNat)
 case atStart => exact ⟨0, Nat.zero_le _, rfl, HM2.out, World.ownsRow_nil _ _ _ _, hB2, Below.refl _ _⟩
 case round =>
  clear HM2
  obtain ⟨k, hk, rfl, hH⟩ := hrel
  have hsr : w2.heap.size ≤ wr.heap.size := hH.out.2.2.2.size
  by_cases hlt : k < N
  ·obtain ⟨p, hp⟩ : ∃ p, (vsF ns)[k]? = some p := ⟨_, List.getElem?_eq_getElem (by rw [← HN.out]; exact hlt)⟩
   obtain ⟨i, m, rfl, hi⟩ := mem_vsF (List.mem_of_getElem? hp)
   obtain ⟨r, rfl, hbr, hLi⟩ : ∃ r, ai = some ⟨r, 0, none⟩ ∧ w1.heap.size ≤ r ∧ Li w2 r 0 (vsF ns) := HLI.out.resolve_left (fun e => by rw [e] at hp; simp at hp)
   have hcell : wr.cell? ⟨r, k, none⟩ = some (.int .i64 ((i : Int) + 1)) := by
    have h1 := hLi k (by rw [← HN.out]; exact hlt)
    rw [Nat.zero_add, List.getD_eq_getElem?_getD, hp] at h1
    exact bel_cell hH.out.2.2.2 (World.block_lt_of_cell? _ ⟨r, k, none⟩ h1) h1
   have hltI : (k : Int) < (N : Int) := by omega
   have hil : i < ns.length := (List.getElem?_eq_some_iff.1 hi).1
   have hi64 : w64 ((i : Int) + 1) := by unfold w64; omega
   have HSN : Hid (((vsF ns).take (k + 1)).map (cmpV ns G) = ((vsF ns).take k).map (cmpV ns G) ++ [cmpV ns G ((i : Int) + 1)]) := by
    unfold Hid; rw [List.take_add_one, hp, List.map_append]; rfl
   have HLN : Hid ((((vsF ns).take k).map (cmpV ns G)).length = k) := by unfold Hid; rw [List.length_map, List.length_take]; have := HN.out; omega
   have hNm : m.nm.size ≤ m.nm.size := Nat.le_refl _
   obtain ⟨y, hy⟩ : ∃ y, y = (getM G ((i : Int) + 1)).getD zBt := ⟨_, rfl⟩
   obtain ⟨f, hf⟩ : ∃ f, f = fits G ((i : Int) + 1) m.s := ⟨_, rfl⟩
   have hsA : sAt ns ((i : Int) + 1) = m.s := by unfold sAt; rw [show ((i : Int) + 1 - 1).toNat = i by omega, hi]; rfl
   have HCV : Hid (cmpV ns G ((i : Int) + 1) = ⟨m.nm, if f then y else ⟨m.s, 0, 0⟩⟩) := by
    unfold Hid cmpV
    rw [hsA, hf, hy, show ((i : Int) + 1 - 1).toNat = i by omega, hi]; rfl
   have HFT : Hid (∀ wx, Bm wx w.heap.size G → Calls Try.prog 28 #[.map (some w.heap.size), .int .i64 ((i : Int) + 1), .int .i64 m.s] wx fun e w' => e = .returned (.tuple #[.agg #[.int .i64 y.w, .int .u64 y.lo, .int .u64 y.hi], .bool f]) ∧ Below wx.heap.size wx w') := fun wx hx => by rw [hy, hf]; exact fit_any hx hi64 HG.out
   have HNQ : Hid (∀ wx, Below wr.heap.size wr wx → Calls Try.prog 18 #[.pointer (some ⟨g, 0, none⟩), .int .i64 ((i : Int) + 1)] wx fun e w' => e = .returned (.tuple #[.agg #[.int .i64 m.op, .int .i64 m.s, .int .i64 m.a, .int .i64 m.b, .int .i64 m.c, .int .i64 m.p, .int .i64 m.q, .int .i64 m.w, .int .u64 m.lo, .int .u64 m.hi, .string m.nm], .bool true]) ∧ Below wx.heap.size wx w') := fun wx hx => HND.out wx i m (hH.out.2.2.1.trans (hx.mono hH.out.2.2.1.size)) hi
   clear hp hLi hi hy hf hsA hi64 hNm
   go_wp2_with fail
   refine Calls.mono (HNQ.out _ (Below.refl _ _)) ?_
   rintro e w3 ⟨rfl, hb3⟩
   have hs3 := hb3.size
   have HM3 : Hid (Bm w3 w.heap.size G) := hH.out.1.kept (hb3.block _ (by omega))
   have HO3 : Hid _ := row_kept hH.out.2.1 hb3.block
   have hB3 : Below w.heap.size w w3 := hH.out.2.2.1.trans (hb3.mono hH.out.2.2.1.size)
   have hC3 : Below w2.heap.size w2 w3 := hH.out.2.2.2.trans (hb3.mono hsr)
   clear hb3 HNQ hcell
   go_wp2_with fail
   refine Calls.mono (HFT.out _ (HM3.out.kept (heap_alloc_old _ _ (by omega)))) ?_
   rintro e w4 ⟨rfl, hb4⟩
   have hs4 := hb4.size
   rw [size_alloc'] at hs4
   have n1 : w4.cell? ⟨w3.heap.size, 1, none⟩ = some (.int .i64 m.s) := by rw [hb4.cell (p := ⟨w3.heap.size, 1, none⟩) (by show w3.heap.size < _; rw [size_alloc']; omega)]; simp
   have n10 : w4.cell? ⟨w3.heap.size, 10, none⟩ = some (.string m.nm) := by rw [hb4.cell (p := ⟨w3.heap.size, 10, none⟩) (by show w3.heap.size < _; rw [size_alloc']; omega)]; simp
   have hx4 : Below w3.heap.size w3 w4 := ((Below.refl _ _).alloc (Nat.le_refl _) _).trans (hb4.mono (by rw [size_alloc']; omega))
   have HM4 : Hid (Bm w4 w.heap.size G) := HM3.out.kept (hx4.block _ (by omega))
   have HO4 : Hid (w4.ownsRow w2.heap.size 62 4 u6 (((vsF ns).take k).map (cmpV ns G)).length ((((vsF ns).take k).map (cmpV ns G)).flatMap Nv.cs)) := row_kept HO3.out hx4.block
   have hB4 : Below w.heap.size w w4 := hB3.trans (hx4.mono (by omega))
   have hC4 : Below w2.heap.size w2 w4 := hC3.trans (hx4.mono (by omega))
   have hnl : w3.heap.size < w4.heap.size := by omega
   clear hb4 hx4 HFT hB3 hC3 HM3 HO3
   obtain ⟨x, hx⟩ : ∃ x : Nv, x = cmpV ns G ((i : Int) + 1) := ⟨_, rfl⟩
   cases f
   ·have hx1 : Hid (x = ⟨m.nm, ⟨m.s, 0, 0⟩⟩) := hx.trans HCV.out
    have hbs := hB4.size
    go_wp2_with (at_builtin; refine wpList_append_own_at _ rfl _ _ 38 rfl w2.heap.size 62 t0 (.agg #[.string ⟨#[]⟩, .int .i64 0, .int .u64 0, .int .u64 0]) 4 40 underN HI.out.1 HI.out.2.1 HI.out.2.2.1 HI.out.2.2.2 rfl (by decide) _ _ _ rfl (row_kept (row_kept HO4.out (fun _ hq => heap_alloc_old _ _ hq)) (fun _ hq => heap_alloc_old _ _ hq)) ⟨w4.heap.size + 1, 0, none⟩ 1 1 [.string m.nm, .int .i64 m.s, .int .u64 0, .int .u64 0] rfl rfl (cells_new4 (by rw [size_alloc'])) (one_nv ⟨m.nm, ⟨m.s, 0, 0⟩⟩) (by rw [HLN.out]; unfold maxLen; omega) (by rw [HLN.out]; omega) (by rw [size_alloc', size_alloc']; omega) ?_; intro v6 w6 hown hgrow hnil hat)
    have hq6 : ∀ q, u6.ownBlock = some q → w2.heap.size ≤ q := fun q hq => (HO4.out.lt q hq).1
    have hb6 : Below w.heap.size w w6 := low_grown (hB4.alloc hB4.size _) (by rw [size_alloc']; omega) hgrow (fun q hq => by have := hq6 q hq; omega)
    have hc6 : Below w2.heap.size w2 w6 := low_grown (hC4.alloc hC4.size _) (by rw [size_alloc']; omega) hgrow hq6
    have HM6 : Hid (Bm w6 w.heap.size G) := (HM4.out.kept ((heap_alloc_old _ _ (by rw [size_alloc']; omega)).trans (heap_alloc_old _ _ (by omega)))).kept (hgrow.block _ (by rw [size_alloc', size_alloc']; omega) (fun e => by have := hq6 _ e.symm; omega))
    have HO6 : Hid (Nv' w6 w2.heap.size v6 (((vsF ns).take (k + 1)).map (cmpV ns G))) := by
     unfold Hid Nv'
     rw [HSN.out, ← hx, hx1.out, List.flatMap_append, List.length_append]
     exact hown
    clear hown hgrow hnil hat HO4 HM4
    go_wp2_with fail
    exact ⟨⟨k + 1, by omega, by go_num, HM6.out, HO6.out, hb6, hc6⟩, by simp [intOf]; omega⟩
   ·have hx1 : Hid (x = ⟨m.nm, y⟩) := hx.trans HCV.out
    have hbs := hB4.size
    go_wp2_with (at_builtin; refine wpList_append_own_at _ rfl _ _ 38 rfl w2.heap.size 62 t0 (.agg #[.string ⟨#[]⟩, .int .i64 0, .int .u64 0, .int .u64 0]) 4 40 underN HI.out.1 HI.out.2.1 HI.out.2.2.1 HI.out.2.2.2 rfl (by decide) _ _ _ rfl (row_kept (row_kept HO4.out (fun _ hq => heap_alloc_old _ _ hq)) (fun _ hq => heap_alloc_old _ _ hq)) ⟨w4.heap.size + 1, 0, none⟩ 1 1 [.string m.nm, .int .i64 y.w, .int .u64 y.lo, .int .u64 y.hi] rfl rfl (cells_new4 (by rw [size_alloc'])) (one_nv ⟨m.nm, y⟩) (by rw [HLN.out]; unfold maxLen; omega) (by rw [HLN.out]; omega) (by rw [size_alloc', size_alloc']; omega) ?_; intro v6 w6 hown hgrow hnil hat)
    have hq6 : ∀ q, u6.ownBlock = some q → w2.heap.size ≤ q := fun q hq => (HO4.out.lt q hq).1
    have hb6 : Below w.heap.size w w6 := low_grown (hB4.alloc hB4.size _) (by rw [size_alloc']; omega) hgrow (fun q hq => by have := hq6 q hq; omega)
    have hc6 : Below w2.heap.size w2 w6 := low_grown (hC4.alloc hC4.size _) (by rw [size_alloc']; omega) hgrow hq6
    have HM6 : Hid (Bm w6 w.heap.size G) := (HM4.out.kept ((heap_alloc_old _ _ (by rw [size_alloc']; omega)).trans (heap_alloc_old _ _ (by omega)))).kept (hgrow.block _ (by rw [size_alloc', size_alloc']; omega) (fun e => by have := hq6 _ e.symm; omega))
    have HO6 : Hid (Nv' w6 w2.heap.size v6 (((vsF ns).take (k + 1)).map (cmpV ns G))) := by
     unfold Hid Nv'
     rw [HSN.out, ← hx, hx1.out, List.flatMap_append, List.length_append]
     exact hown
    clear hown hgrow hnil hat HO4 HM4
    go_wp2_with fail
    exact ⟨⟨k + 1, by omega, by go_num, HM6.out, HO6.out, hb6, hc6⟩, by simp [intOf]; omega⟩
  ·obtain rfl : k = N := by omega
   have hltI : ¬ (k : Int) < (k : Int) := by omega
   have HF : Hid (Nv' wr w2.heap.size u6 ((vsF ns).map (cmpV ns G))) := by have h := hH.out.2.1; rw [HN.out, List.take_length] at h; exact h
   go_wp2_with fail
   go_ret
   exact ⟨_, rfl, row_low HF.out (Nat.le_of_lt hs2), hH.out.2.2.1⟩
def ApF (A : Int → Int → Int → List Bt → Bt × Int) : Prop := ∀ op p q l, (∀ b ∈ l, Bk b) → l.length ≤ 8 → l ≠ [] → p < 9223372036854775808 →
 ApP op p q l (A op p q l).1 (A op p q l).2 ∧ (∀ s, srtF op p q (l.map sof) = (s, 0) → (A op p q l).2 = 0 ∧ Bk (A op p q l).1 ∧ sof (A op p q l).1 = s) ∧ ((A op p q l).2 = 0 → ∃ s, srtF op p q (l.map sof) = (s, 0))
theorem ap_fun : ∃ A, ApF A := by
 have H : ∀ op p q l, ∃ x : Bt × Int, (∀ b ∈ l, Bk b) → l.length ≤ 8 → l ≠ [] → p < 9223372036854775808 →
   ApP op p q l x.1 x.2 ∧ (∀ s, srtF op p q (l.map sof) = (s, 0) → x.2 = 0 ∧ Bk x.1 ∧ sof x.1 = s) ∧ (x.2 = 0 → ∃ s, srtF op p q (l.map sof) = (s, 0)) := by
  intro op p q l
  by_cases hc : (∀ b ∈ l, Bk b) ∧ l.length ≤ 8 ∧ l ≠ [] ∧ p < 9223372036854775808
  ·obtain ⟨hk, hl, hne, hp⟩ := hc
   by_cases hs : ∃ s, srtF op p q (l.map sof) = (s, 0)
   ·obtain ⟨s, hs⟩ := hs
    have h1 : 1 ≤ ari op := by
     have := (srt_ok hs).1
     rw [List.length_map] at this
     have := List.length_pos_iff.2 hne
     omega
    obtain ⟨r, c1, c3, c4⟩ := pr_all hk hp h1 hs
    refine ⟨(r, 0), fun _ _ _ _ => ⟨c1, fun s' hs' => ⟨rfl, c3, ?_⟩, fun _ => ⟨s, hs⟩⟩⟩
    rw [hs] at hs'
    cases hs'
    exact c4
   ·obtain ⟨r, er, c1, c3⟩ := apply_pair (op := op) (q := q) hk hl hne hp
    exact ⟨(r, er), fun _ _ _ _ => ⟨c1, fun s hs' => absurd ⟨s, hs'⟩ hs, c3⟩⟩
  ·exact ⟨(zBt, 0), fun h1 h2 h3 h4 => absurd ⟨h1, h2, h3, h4⟩ hc⟩
 exact ⟨fun op p q l => Classical.choose (H op p q l), fun op p q l => Classical.choose_spec (H op p q l)⟩
def kn (M : List (Int × Bt)) (i : Int) : Bt := (getM M i).getD zBt
def PVg (A : Int → Int → Int → List Bt → Bt × Int) (ns : List Nd) (G M : List (Int × Bt)) (p : Int) : Bt × Int :=
 match ns[(p - 1).toNat]? with
 | none => (zBt, 0)
 | some n => if n.op = 1 then (⟨n.w, n.lo, n.hi⟩, 0) else if n.op = 2 then (if fits G p n.s then kn G p else zBt, if fits G p n.s then 0 else 41) else A n.op n.p n.q (([n.a, n.b, n.c].map (kn M)).take (ari n.op).toNat)
theorem kn_bk {M : List (Int × Bt)} (h : ∀ p ∈ M, Bk p.2) (i : Int) : Bk (kn M i) := by
 unfold kn
 cases e : getM M i with
 | none => exact ⟨by decide, by decide, by decide, by decide⟩
 | some v =>
  unfold getM at e
  obtain ⟨x, hx, rfl⟩ := Option.map_eq_some_iff.1 e
  exact h x (List.mem_of_find?_eq_some hx)
theorem Lb.one {w : World} {g o : Nat} {a : Bt} {l : List Bt} (h : Lb w g o (a :: l)) : Lb w g o [a] := fun j x hj t u hu => h j x (by
 match j, hj with
 | 0, hj => exact hj
 | k + 1, hj => simp at hj) t u hu
theorem Lb.twoG {w : World} {g o : Nat} {a b : Bt} {l : List Bt} (h : Lb w g o (a :: b :: l)) : Lb w g o [a, b] := fun j x hj t u hu => h j x (by
 match j, hj with
 | 0, hj => exact hj
 | 1, hj => exact hj
 | k + 2, hj => simp at hj) t u hu
theorem pvg {A : Int → Int → Int → List Bt → Bt × Int} (hA : ApF A) {w : World} {B g mi mv mo wb mg mk i : Nat} {v : Value} {ns : List Nd} {G M : List (Int × Bt)} {n : Nd} (h : Gr w B g mi mv v mo ns) (hw : Wk w wb g mg mk G M) (hi : ns[i]? = some n)
  (hG : ∀ p ∈ G, Bk p.2) (hM : ∀ p ∈ M, Bk p.2) (ha : w64 n.a) (hb : w64 n.b) (hc : w64 n.c) (hp : n.p < 9223372036854775808) (har : n.op = 1 ∨ n.op = 2 ∨ (1 ≤ ari n.op ∧ ari n.op ≤ 3)) (hi64 : w64 ((i : Int) + 1)) :
  Calls Try.prog 42 #[.pointer (some ⟨wb, 0, none⟩), .int .i64 ((i : Int) + 1)] w fun e w' => e = .returned (.tuple #[.agg #[.int .i64 (PVg A ns G M ((i : Int) + 1)).1.w, .int .u64 (PVg A ns G M ((i : Int) + 1)).1.lo, .int .u64 (PVg A ns G M ((i : Int) + 1)).1.hi], .int .i64 (PVg A ns G M ((i : Int) + 1)).2]) ∧ Below w.heap.size w w' := by
 have hidx : ((i : Int) + 1 - 1).toNat = i := by omega
 by_cases h1 : n.op = 1
 ·have e : PVg A ns G M ((i : Int) + 1) = (⟨n.w, n.lo, n.hi⟩, 0) := by unfold PVg; rw [hidx, hi]; simp [h1]
  rw [e]; exact pv_const h hw hi h1
 ·by_cases h2 : n.op = 2
  ·have e : PVg A ns G M ((i : Int) + 1) = (if fits G ((i : Int) + 1) n.s then kn G ((i : Int) + 1) else zBt, if fits G ((i : Int) + 1) n.s then 0 else 41) := by unfold PVg; rw [hidx, hi]; simp [h2]
   rw [e]; exact pv_var h hw hi h2 (fun wx hb => fit_any (hw.below hb).gv hi64 hG)
  ·have e : PVg A ns G M ((i : Int) + 1) = A n.op n.p n.q (([n.a, n.b, n.c].map (kn M)).take (ari n.op).toNat) := by unfold PVg; rw [hidx, hi]; simp [h1, h2]
   have hr : ari n.op = 1 ∨ ari n.op = 2 ∨ ari n.op = 3 := by omega
   have ka := kn_bk hM n.a
   have kb := kn_bk hM n.b
   have kc := kn_bk hM n.c
   rcases hr with hr | hr | hr
   ·have e2 : ([n.a, n.b, n.c].map (kn M)).take (ari n.op).toNat = [kn M n.a] := by rw [hr]; rfl
    have hF := hA n.op n.p n.q [kn M n.a] (fun b hb => by rw [List.mem_singleton.1 hb]; exact ka) (by simp) (by simp) hp
    rw [e, e2]
    exact pv_op1 h hw hi h1 h2 ha hb hc rfl rfl rfl (fun wx => by have := arity_any n.op wx; rw [hr] at this; exact this) (fun wx gb _ hgb hl => hF.1 wx gb 0 3 (Lb.one hl) hgb)
   ·have e2 : ([n.a, n.b, n.c].map (kn M)).take (ari n.op).toNat = [kn M n.a, kn M n.b] := by rw [hr]; rfl
    have hF := hA n.op n.p n.q [kn M n.a, kn M n.b] (fun b hb => by
     rcases List.mem_cons.1 hb with rfl | hb
     ·exact ka
     ·rw [List.mem_singleton.1 hb]; exact kb) (by simp) (by simp) hp
    rw [e, e2]
    exact pv_op2 h hw hi h1 h2 ha hb hc rfl rfl rfl (fun wx => by have := arity_any n.op wx; rw [hr] at this; exact this) (fun wx gb _ hgb hl => hF.1 wx gb 0 3 (Lb.twoG hl) hgb)
   ·have e2 : ([n.a, n.b, n.c].map (kn M)).take (ari n.op).toNat = [kn M n.a, kn M n.b, kn M n.c] := by rw [hr]; rfl
    have hF := hA n.op n.p n.q [kn M n.a, kn M n.b, kn M n.c] (fun b hb => by
     rcases List.mem_cons.1 hb with rfl | hb
     ·exact ka
     ·rcases List.mem_cons.1 hb with rfl | hb
      ·exact kb
      ·rw [List.mem_singleton.1 hb]; exact kc) (by simp) (by simp) hp
    rw [e, e2]
    exact pv_op3 h hw hi h1 h2 ha hb hc rfl rfl rfl (fun wx => by have := arity_any n.op wx; rw [hr] at this; exact this) (fun wx gb _ hgb hl => hF.1 wx gb 0 3 hl hgb)
structure Nok (ns : List Nd) : Prop where
 vals : ∀ n ∈ ns, Bk ⟨n.w, n.lo, n.hi⟩
 ps : ∀ n ∈ ns, n.p < 9223372036854775808
 ars : ∀ n ∈ ns, n.op = 1 ∨ n.op = 2 ∨ (1 ≤ ari n.op ∧ ari n.op ≤ 3)
def vG (A : Int → Int → Int → List Bt → Bt × Int) (ns : List Nd) (G M : List (Int × Bt)) (id : Int) : List (Int × Bt) × Bt × Int :=
 match getM M id with
 | some y => (M, y, 0)
 | none => if coneL ns id = [] then (M, zBt, 40) else ((vLoop (PVg A ns G) (coneL ns id) M).1, if (vLoop (PVg A ns G) (coneL ns id) M).2 = 0 then kn (vLoop (PVg A ns G) (coneL ns id) M).1 id else zBt, (vLoop (PVg A ns G) (coneL ns id) M).2)
theorem pvg_bk {A : Int → Int → Int → List Bt → Bt × Int} (hA : ApF A) {ns : List Nd} (hN : Nok ns) {G M : List (Int × Bt)} (hG : ∀ p ∈ G, Bk p.2) (hM : ∀ p ∈ M, Bk p.2) {p : Int} (h0 : (PVg A ns G M p).2 = 0) : Bk (PVg A ns G M p).1 := by
 have hz : Bk zBt := ⟨by decide, by decide, by decide, by decide⟩
 unfold PVg at h0 ⊢
 split
 ·exact hz
 ·rename_i n hn
  rw [hn] at h0
  simp only at h0
  have hm := List.mem_of_getElem? hn
  split
  ·exact hN.vals n hm
  ·rename_i h1
   rw [if_neg h1] at h0
   split
   ·show Bk (if _ then _ else _)
    split
    ·exact kn_bk hG p
    ·exact hz
   ·rename_i h2
    rw [if_neg h2] at h0
    have har := hN.ars n hm
    have hbk : ∀ b ∈ ([n.a, n.b, n.c].map (kn M)).take (ari n.op).toNat, Bk b := fun b hb => by
     obtain ⟨i, -, rfl⟩ := List.mem_map.1 (List.mem_of_mem_take hb)
     exact kn_bk hM i
    have hlen : (([n.a, n.b, n.c].map (kn M)).take (ari n.op).toNat).length = (ari n.op).toNat := by
     rw [List.length_take]; simp; omega
    have hF := hA n.op n.p n.q _ hbk (by rw [hlen]; omega) (fun e => by rw [e] at hlen; simp at hlen; omega) (hN.ps n hm)
    obtain ⟨s, hs⟩ := hF.2.2 h0
    exact (hF.2.1 s hs).2.1
theorem valg {A : Int → Int → Int → List Bt → Bt × Int} (hA : ApF A) {w : World} {B g mi mv mo wb mg mk : Nat} {v : Value} {ns : List Nd} {G M : List (Int × Bt)} {id : Int} (hN : Nok ns)
  (HG : Hid (∀ wx, w.grownBy wx (some mk) → Gr wx B g mi mv v mo ns)) (hw : Wk w wb g mg mk G M) (hid : w64 id) (hG : ∀ p ∈ G, Bk p.2) (hM : ∀ p ∈ M, Bk p.2) (hr : ∀ p ∈ coneL ns id, 1 ≤ p ∧ p ≤ (ns.length : Int)) :
  Calls Try.prog 31 #[.pointer (some ⟨wb, 0, none⟩), .int .i64 id] w fun e w' => e = .returned (.tuple #[.agg #[.int .i64 (vG A ns G M id).2.1.w, .int .u64 (vG A ns G M id).2.1.lo, .int .u64 (vG A ns G M id).2.1.hi], .int .i64 (vG A ns G M id).2.2]) ∧ Wk w' wb g mg mk G (vG A ns G M id).1 ∧ w.grownBy w' (some mk) := by
 have hgr : Gr w B g mi mv v mo ns := HG.out w (gb_below (Below.refl _ _))
 have hlen := hgr.len
 cases hy : getM M id with
 | some y =>
  have e : vG A ns G M id = (M, y, 0) := by unfold vG; rw [hy]
  rw [e]
  exact (val_known hw hid hy).mono fun e w' hh => ⟨hh.1, hw.below hh.2, gb_below hh.2⟩
 | none =>
  by_cases hL : coneL ns id = []
  ·have e : vG A ns G M id = (M, zBt, 40) := by unfold vG; rw [hy]; simp [hL]
   rw [e]
   exact (val_none hgr hw hid hy hL).mono fun e w' hh => ⟨hh.1, hw.below hh.2, gb_below hh.2⟩
  ·have e : vG A ns G M id = ((vLoop (PVg A ns G) (coneL ns id) M).1, if (vLoop (PVg A ns G) (coneL ns id) M).2 = 0 then kn (vLoop (PVg A ns G) (coneL ns id) M).1 id else zBt, (vLoop (PVg A ns G) (coneL ns id) M).2) := by unfold vG; rw [hy]; simp [hL]
   rw [e]
   refine val_loop (I := fun _ M' => ∀ p ∈ M', Bk p.2) HG hw hid hy rfl hL (fun p hp => by have := hr p hp; omega) ?_ hM ?_ rfl rfl
   ·intro k p M' wx hk hI hg hW
    have hp := hr p (List.mem_of_getElem? hk)
    obtain ⟨i, rfl⟩ : ∃ i : Nat, p = (i : Int) + 1 := ⟨(p - 1).toNat, by omega⟩
    obtain ⟨n, hn⟩ : ∃ n, ns[i]? = some n := ⟨_, List.getElem?_eq_getElem (by omega)⟩
    have hkd := hgr.inv.kids i n hn
    have hm := List.mem_of_getElem? hn
    exact pvg hA (HG.out wx hg) hW hn hG hI (by unfold w64; omega) (by unfold w64; omega) (by unfold w64; omega) (hN.ps n hm) (hN.ars n hm) (by unfold w64; omega)
   ·intro k p M' hk hI
    refine ⟨fun _ => hI, fun _ h0 q hq => ?_⟩
    rcases List.mem_append.1 hq with hq | hq
    ·exact hI q hq
    ·rw [List.mem_singleton.1 hq]; exact pvg_bk hA hN hG hI h0
end Go.Proofs.Ytedldoobmmhloaa
