/- Contracts (values of terms): Complete; two lists of names alike. (Made by a script.) -/
import Derived.Test.YtnflphhckgeneaaGreatMg50
import Derived.Deep.QuietTactic
import Derived.BigQuiet
import Derived.Test.YtnflphhckgeneaaGreatMg12
import Derived.Deep.RegionHeld3
import Derived.Test.YtnflphhckgeneaaGreatK
import Derived.Test.YtnflphhckgeneaaGreatO2
namespace Go.Proofs.YtnflphhckgeneaaGreat
set_option maxHeartbeats 12800000
set_option maxRecDepth 100000
open Go.RowKit
set_option linter.unusedSimpArgs false
set_option linter.unusedVariables false

theorem fit_any {w : World} {b : Nat} {M : List (Int × Bt)} {id s : Int} (h : Bm w b M) (hk : w64 id) (hB : ∀ p ∈ M, Bk p.2) :
    Rt 35 #[.map (some b), .int .i64 id, .int .i64 s] w (.tuple #[.agg #[.int .i64 ((getM M id).getD zBt).w, .int .u64 ((getM M id).getD zBt).lo, .int .u64 ((getM M id).getD zBt).hi], .bool (fits M id s)]) := by
  cases e : getM M id with
  | none =>
    have h1 := fit_no (s := s) h hk e
    unfold fits
    rw [e]
    exact h1
  | some v =>
    have hm : ∃ p ∈ M, p.2 = v := by
      unfold getM at e
      obtain ⟨x, hx, rfl⟩ := Option.map_eq_some_iff.1 e
      exact ⟨x, List.mem_of_find?_eq_some hx, rfl⟩
    obtain ⟨p, hp, rfl⟩ := hm
    have h1 := fit_yes (s := s) h hk e (hB p hp)
    exact h1

/-- v is a list of names that the program owns. -/
def Nv' (w : World) (base : Nat) (v : Value) (l : List Nv) : Prop := w.ownsRow base 60 4 v l.length (l.flatMap Nv.cs)
/-- What Complete says of a variable. -/
def cmpV (ns : List Nd) (G : List (Int × Bt)) (i : Int) : Nv := ⟨((ns[(i - 1).toNat]?).map Nd.nm).getD ⟨#[]⟩, if fits G i (sAt ns i) then (getM G i).getD zBt else ⟨sAt ns i, 0, 0⟩⟩
theorem infoN : (Tryz.prog.info? 60).map (fun i => (i.zero, i.size, i.bytes)) = some (some (.agg #[.string ⟨#[]⟩, .int .i64 0, .int .u64 0, .int .u64 0]), 4, 40) := by kernel_rfl
theorem underN : Tryz.prog.underlying 23 = some (.slice 60) := by kernel_rfl
theorem one_nv (x : Nv) : ∀ u ∈ x.cs, u.oneCell' = true := by
  intro u hu
  simp only [Nv.cs, List.mem_cons, List.not_mem_nil, or_false] at hu
  rcases hu with rfl | rfl | rfl | rfl <;> rfl
theorem cells_new4 {w : World} {x y z q : Value} {t : TypeId} {b : Nat} (hb : b = w.heap.size) : ∀ j u, [x, y, z, q][j]? = some u → (w.alloc (.cells #[x, y, z, q] t)).cell? ((⟨b, 0, none⟩ : Addr).add j) = some u := by
  subst hb
  intro j u hj
  have h := cell_of (heap_alloc_new w (.cells #[x, y, z, q] t)) j (v := u) (by simpa using hj)
  rw [show ((⟨w.heap.size, 0, none⟩ : Addr).add j) = ⟨w.heap.size, j, none⟩ by simp only [Addr.add]; split <;> simp_all]
  exact h
theorem mem_vsF {ns : List Nd} {p : Int} (h : p ∈ vsF ns) : ∃ (i : Nat) (n : Nd), p = (i : Int) + 1 ∧ ns[i]? = some n := by
  unfold vsF at h
  obtain ⟨x, hx, he⟩ := List.mem_filterMap.1 h
  rw [List.mem_mapIdx] at hx
  obtain ⟨i, hi, rfl⟩ := hx
  simp only at he
  split at he
  · exact ⟨i, ns[i], (Option.some.inj he).symm, List.getElem?_eq_getElem hi⟩
  · cases he

theorem comp_any {w : World} {B g mi mv mo c : Nat} {v : Value} {ns : List Nd} {a : Option Addr} {l : List Nv} (h : Gr w B g mi mv v mo ns) (hne : 0 < ns.length) (he : Le w a l) (hnm : ∀ x ∈ l, x.nm.size ≤ maxLen) (hl : l.length ≤ 1000) (hG : ∀ p ∈ fvF ns l, Bk p.2) :
    Calls Tryz.prog 13 #[.pointer (some ⟨g, 0, none⟩), .slice a l.length c] w fun e w' => ∃ u, e = .returned u ∧ Nv' w' w.heap.size u ((vsF ns).map (cmpV ns (fvF ns l))) ∧ Below w.heap.size w w' := by
  have HFV : Hid _ := fv_any (c := c) h he hnm hl
  have HVS : Hid (∀ wx, Below w.heap.size w wx → Calls Tryz.prog 34 #[.pointer (some ⟨g, 0, none⟩)] wx fun e w' => ∃ u, e = .returned u ∧ Is' w' wx.heap.size u (vsF ns) ∧ Below wx.heap.size wx w') := fun wx hb => vars_any (h.below hb) hne
  have HND : Hid (∀ (wx : World) (i : Nat) (n : Nd), Below w.heap.size w wx → ns[i]? = some n → Rt 19 #[.pointer (some ⟨g, 0, none⟩), .int .i64 ((i : Int) + 1)] wx (.tuple #[.agg #[.int .i64 n.op, .int .i64 n.s, .int .i64 n.a, .int .i64 n.b, .int .i64 n.c, .int .i64 n.p, .int .i64 n.q, .int .i64 n.w, .int .u64 n.lo, .int .u64 n.hi, .string n.nm], .bool true])) := fun wx i n hb hi => node_yes (h.below hb) hi
  have hlen := h.len
  have hvl := vsF_len ns
  obtain ⟨n, hn⟩ : ∃ n, n = l.length := ⟨_, rfl⟩
  rw [← hn] at HFV ⊢
  obtain ⟨t0, ht0, hz0, hz1, hz2⟩ := info_parts infoN
  have HI : Hid (Tryz.prog.info? 60 = some t0 ∧ t0.zero = some (.agg #[.string ⟨#[]⟩, .int .i64 0, .int .u64 0, .int .u64 0]) ∧ t0.size = 4 ∧ t0.bytes = 40) := ⟨ht0, hz0, hz1, hz2⟩
  obtain ⟨G, hGe⟩ : ∃ G, G = fvF ns l := ⟨_, rfl⟩
  rw [← hGe] at HFV hG ⊢
  have HG : Hid _ := hG
  clear h he hnm hl hn ht0 hz0 hz1 hz2 hGe hG
  go_enter Tryz.func13, Tryz.ntmps13
  go_wp2_with fail
  refine Calls.mono HFV.out ?_
  rintro e w1 ⟨rfl, hM, hB⟩
  have HM : Hid _ := hM
  have hs1 : w.heap.size < w1.heap.size := hM.mp.lt
  clear hM
  go_wp2_with fail
  refine Calls.mono (HVS.out _ hB) ?_
  rintro e w2 ⟨u, rfl, hI, hb2⟩
  have hR := hI.rl (by omega)
  obtain ⟨ai, ci, rfl, -, -, hli⟩ := hR
  have HLI : Hid _ := hli
  have HM2 : Hid (Bm w2 w.heap.size G) := HM.out.kept (hb2.block _ hs1)
  have hB2 : Below w.heap.size w w2 := hB.trans (hb2.mono hB.size)
  have hs2 : w.heap.size < w2.heap.size := by have := hb2.size; omega
  obtain ⟨N, hN⟩ : ∃ N, N = (vsF ns).length := ⟨_, rfl⟩
  have HN : Hid _ := hN
  rw [← hN] at hvl ⊢
  clear hI hb2 hli hN HM hB
  go_wp2_with fail
  go_loopw [6, 19] (fun u i wr => ∃ k : Nat, k ≤ N ∧ i = .int .i64 (k : Int) ∧ Hid (Bm wr w.heap.size G ∧ Nv' wr w2.heap.size u (((vsF ns).take k).map (cmpV ns G)) ∧ Below w.heap.size w wr ∧ Below w2.heap.size w2 wr)) (fun u i wr => N - (intOf i).toNat)
  case atStart => exact ⟨0, Nat.zero_le _, rfl, HM2.out, World.ownsRow_nil _ _ _ _, hB2, Below.refl _ _⟩
  case round =>
    clear HM2
    obtain ⟨k, hk, rfl, hH⟩ := hrel
    have hsr : w2.heap.size ≤ wr.heap.size := hH.out.2.2.2.size
    by_cases hlt : k < N
    · obtain ⟨p, hp⟩ : ∃ p, (vsF ns)[k]? = some p := ⟨_, List.getElem?_eq_getElem (by rw [← HN.out]; exact hlt)⟩
      obtain ⟨i, m, rfl, hi⟩ := mem_vsF (List.mem_of_getElem? hp)
      obtain ⟨r, rfl, hbr, hLi⟩ : ∃ r, ai = some ⟨r, 0, none⟩ ∧ w1.heap.size ≤ r ∧ Li w2 r 0 (vsF ns) := HLI.out.resolve_left (fun e => by rw [e] at hp; simp at hp)
      have hcell : wr.cell? ⟨r, k, none⟩ = some (.int .i64 ((i : Int) + 1)) := by
        have h1 := hLi k (by rw [← HN.out]; exact hlt)
        rw [Nat.zero_add, List.getD_eq_getElem?_getD, hp] at h1
        exact bel_cell hH.out.2.2.2 (World.block_lt_of_cell? _ ⟨r, k, none⟩ h1) h1
      have hltI : (k : Int) < (N : Int) := by omega
      have hil : i < ns.length := (List.getElem?_eq_some_iff.1 hi).1
      have hi64 : w64 ((i : Int) + 1) := by unfold w64; omega
      have HSN : Hid (((vsF ns).take (k + 1)).map (cmpV ns G) = ((vsF ns).take k).map (cmpV ns G) ++ [cmpV ns G ((i : Int) + 1)]) := by
        unfold Hid; rw [List.take_add_one, hp, List.map_append]; rfl
      have HLN : Hid ((((vsF ns).take k).map (cmpV ns G)).length = k) := by unfold Hid; rw [List.length_map, List.length_take]; have := HN.out; omega
      have hNm : m.nm.size ≤ m.nm.size := Nat.le_refl _
      obtain ⟨y, hy⟩ : ∃ y, y = (getM G ((i : Int) + 1)).getD zBt := ⟨_, rfl⟩
      obtain ⟨f, hf⟩ : ∃ f, f = fits G ((i : Int) + 1) m.s := ⟨_, rfl⟩
      have hsA : sAt ns ((i : Int) + 1) = m.s := by unfold sAt; rw [show ((i : Int) + 1 - 1).toNat = i by omega, hi]; rfl
      have HCV : Hid (cmpV ns G ((i : Int) + 1) = ⟨m.nm, if f then y else ⟨m.s, 0, 0⟩⟩) := by
        unfold Hid cmpV
        rw [hsA, hf, hy, show ((i : Int) + 1 - 1).toNat = i by omega, hi]; rfl
      have HFT : Hid (∀ wx, Bm wx w.heap.size G → Rt 35 #[.map (some w.heap.size), .int .i64 ((i : Int) + 1), .int .i64 m.s] wx (.tuple #[.agg #[.int .i64 y.w, .int .u64 y.lo, .int .u64 y.hi], .bool f])) := fun wx hx => by rw [hy, hf]; exact fit_any hx hi64 HG.out
      have HNQ : Hid (∀ wx, Below wr.heap.size wr wx → Rt 19 #[.pointer (some ⟨g, 0, none⟩), .int .i64 ((i : Int) + 1)] wx (.tuple #[.agg #[.int .i64 m.op, .int .i64 m.s, .int .i64 m.a, .int .i64 m.b, .int .i64 m.c, .int .i64 m.p, .int .i64 m.q, .int .i64 m.w, .int .u64 m.lo, .int .u64 m.hi, .string m.nm], .bool true])) := fun wx hx => HND.out wx i m (hH.out.2.2.1.trans (hx.mono hH.out.2.2.1.size)) hi
      clear hp hLi hi hy hf hsA hi64 hNm
      go_wp2_with fail
      refine Calls.mono (HNQ.out _ (Below.refl _ _)) ?_
      rintro e w3 ⟨rfl, hb3⟩
      have hs3 := hb3.size
      have HM3 : Hid (Bm w3 w.heap.size G) := hH.out.1.kept (hb3.block _ (by omega))
      have HO3 : Hid _ := row_kept hH.out.2.1 hb3.block
      have hB3 : Below w.heap.size w w3 := hH.out.2.2.1.trans (hb3.mono hH.out.2.2.1.size)
      have hC3 : Below w2.heap.size w2 w3 := hH.out.2.2.2.trans (hb3.mono hsr)
      clear hb3 HNQ hcell
      go_wp2_with fail
      refine Calls.mono (HFT.out _ (HM3.out.kept (heap_alloc_old _ _ (by omega)))) ?_
      rintro e w4 ⟨rfl, hb4⟩
      have hs4 := hb4.size
      rw [size_alloc'] at hs4
      have n1 : w4.cell? ⟨w3.heap.size, 1, none⟩ = some (.int .i64 m.s) := by rw [hb4.cell (p := ⟨w3.heap.size, 1, none⟩) (by show w3.heap.size < _; rw [size_alloc']; omega)]; simp
      have n10 : w4.cell? ⟨w3.heap.size, 10, none⟩ = some (.string m.nm) := by rw [hb4.cell (p := ⟨w3.heap.size, 10, none⟩) (by show w3.heap.size < _; rw [size_alloc']; omega)]; simp
      have hx4 : Below w3.heap.size w3 w4 := ((Below.refl _ _).alloc (Nat.le_refl _) _).trans (hb4.mono (by rw [size_alloc']; omega))
      have HM4 : Hid (Bm w4 w.heap.size G) := HM3.out.kept (hx4.block _ (by omega))
      have HO4 : Hid (w4.ownsRow w2.heap.size 60 4 u6 (((vsF ns).take k).map (cmpV ns G)).length ((((vsF ns).take k).map (cmpV ns G)).flatMap Nv.cs)) := row_kept HO3.out hx4.block
      have hB4 : Below w.heap.size w w4 := hB3.trans (hx4.mono (by omega))
      have hC4 : Below w2.heap.size w2 w4 := hC3.trans (hx4.mono (by omega))
      have hnl : w3.heap.size < w4.heap.size := by omega
      clear hb4 hx4 HFT hB3 hC3 HM3 HO3
      obtain ⟨x, hx⟩ : ∃ x : Nv, x = cmpV ns G ((i : Int) + 1) := ⟨_, rfl⟩
      cases f
      · have hx1 : Hid (x = ⟨m.nm, ⟨m.s, 0, 0⟩⟩) := hx.trans HCV.out
        have hbs := hB4.size
        go_wp2_with (at_builtin; refine wpList_append_own_at _ rfl _ _ 23 rfl w2.heap.size 60 t0 (.agg #[.string ⟨#[]⟩, .int .i64 0, .int .u64 0, .int .u64 0]) 4 40 underN HI.out.1 HI.out.2.1 HI.out.2.2.1 HI.out.2.2.2 rfl (by decide) _ _ _ rfl (row_kept (row_kept HO4.out (fun _ hq => heap_alloc_old _ _ hq)) (fun _ hq => heap_alloc_old _ _ hq)) ⟨w4.heap.size + 1, 0, none⟩ 1 1 [.string m.nm, .int .i64 m.s, .int .u64 0, .int .u64 0] rfl rfl (cells_new4 (by rw [size_alloc'])) (one_nv ⟨m.nm, ⟨m.s, 0, 0⟩⟩) (by rw [HLN.out]; unfold maxLen; omega) (by rw [HLN.out]; omega) (by rw [size_alloc', size_alloc']; omega) ?_; intro v6 w6 hown hgrow hnil hat)
        have hq6 : ∀ q, u6.ownBlock = some q → w2.heap.size ≤ q := fun q hq => (HO4.out.lt q hq).1
        have hb6 : Below w.heap.size w w6 := low_grown (hB4.alloc hB4.size _) (by rw [size_alloc']; omega) hgrow (fun q hq => by have := hq6 q hq; omega)
        have hc6 : Below w2.heap.size w2 w6 := low_grown (hC4.alloc hC4.size _) (by rw [size_alloc']; omega) hgrow hq6
        have HM6 : Hid (Bm w6 w.heap.size G) := (HM4.out.kept ((heap_alloc_old _ _ (by rw [size_alloc']; omega)).trans (heap_alloc_old _ _ (by omega)))).kept (hgrow.block _ (by rw [size_alloc', size_alloc']; omega) (fun e => by have := hq6 _ e.symm; omega))
        have HO6 : Hid (Nv' w6 w2.heap.size v6 (((vsF ns).take (k + 1)).map (cmpV ns G))) := by
          unfold Hid Nv'
          rw [HSN.out, ← hx, hx1.out, List.flatMap_append, List.length_append]
          exact hown
        clear hown hgrow hnil hat HO4 HM4
        go_wp2_with fail
        exact ⟨⟨k + 1, by omega, by go_num, HM6.out, HO6.out, hb6, hc6⟩, by simp [intOf]; omega⟩
      · have hx1 : Hid (x = ⟨m.nm, y⟩) := hx.trans HCV.out
        have hbs := hB4.size
        go_wp2_with (at_builtin; refine wpList_append_own_at _ rfl _ _ 23 rfl w2.heap.size 60 t0 (.agg #[.string ⟨#[]⟩, .int .i64 0, .int .u64 0, .int .u64 0]) 4 40 underN HI.out.1 HI.out.2.1 HI.out.2.2.1 HI.out.2.2.2 rfl (by decide) _ _ _ rfl (row_kept (row_kept HO4.out (fun _ hq => heap_alloc_old _ _ hq)) (fun _ hq => heap_alloc_old _ _ hq)) ⟨w4.heap.size + 1, 0, none⟩ 1 1 [.string m.nm, .int .i64 y.w, .int .u64 y.lo, .int .u64 y.hi] rfl rfl (cells_new4 (by rw [size_alloc'])) (one_nv ⟨m.nm, y⟩) (by rw [HLN.out]; unfold maxLen; omega) (by rw [HLN.out]; omega) (by rw [size_alloc', size_alloc']; omega) ?_; intro v6 w6 hown hgrow hnil hat)
        have hq6 : ∀ q, u6.ownBlock = some q → w2.heap.size ≤ q := fun q hq => (HO4.out.lt q hq).1
        have hb6 : Below w.heap.size w w6 := low_grown (hB4.alloc hB4.size _) (by rw [size_alloc']; omega) hgrow (fun q hq => by have := hq6 q hq; omega)
        have hc6 : Below w2.heap.size w2 w6 := low_grown (hC4.alloc hC4.size _) (by rw [size_alloc']; omega) hgrow hq6
        have HM6 : Hid (Bm w6 w.heap.size G) := (HM4.out.kept ((heap_alloc_old _ _ (by rw [size_alloc']; omega)).trans (heap_alloc_old _ _ (by omega)))).kept (hgrow.block _ (by rw [size_alloc', size_alloc']; omega) (fun e => by have := hq6 _ e.symm; omega))
        have HO6 : Hid (Nv' w6 w2.heap.size v6 (((vsF ns).take (k + 1)).map (cmpV ns G))) := by
          unfold Hid Nv'
          rw [HSN.out, ← hx, hx1.out, List.flatMap_append, List.length_append]
          exact hown
        clear hown hgrow hnil hat HO4 HM4
        go_wp2_with fail
        exact ⟨⟨k + 1, by omega, by go_num, HM6.out, HO6.out, hb6, hc6⟩, by simp [intOf]; omega⟩
    · obtain rfl : k = N := by omega
      have hltI : ¬ (k : Int) < (k : Int) := by omega
      have HF : Hid (Nv' wr w2.heap.size u6 ((vsF ns).map (cmpV ns G))) := by have h := hH.out.2.1; rw [HN.out, List.take_length] at h; exact h
      go_wp2_with fail
      go_ret
      exact ⟨_, rfl, row_low HF.out (Nat.le_of_lt hs2), hH.out.2.2.1⟩
open Go.RowKit

/-- The cells behind g, o hold the names l. -/
def Lv (w : World) (g o : Nat) (l : List Nv) : Prop := ∀ (j : Nat) (x : Nv), l[j]? = some x → ∀ t u, x.cs[t]? = some u → w.cell? ⟨g, o + j * 4 + t, none⟩ = some u

theorem named_same {w : World} {g o c g' o' c' : Nat} {l : List Nv} (h : Lv w g o l) (h' : Lv w g' o' l) (hl : l.length ≤ 100000) (hg : g < w.heap.size) (hg' : g' < w.heap.size) :
    Rt 12 #[.slice (some ⟨g, o, none⟩) l.length c, .slice (some ⟨g', o', none⟩) l.length c'] w (.bool true) := by
  have HC : Hid _ := h
  have HD : Hid _ := h'
  obtain ⟨n, hn⟩ : ∃ n, n = l.length := ⟨_, rfl⟩
  rw [← hn] at hl ⊢
  have HN : Hid _ := hn
  clear h h' hn
  have z1 : ((n : Int) == n) = true := by simp
  have y1 : ((n : Int) != n) = false := by simp
  go_enter Tryz.func12, Tryz.ntmps12
  go_wp2_with fail
  go_loopw [5] (fun i wr => ∃ k : Nat, k ≤ n ∧ i = .int .i64 (k : Int) ∧ Below w.heap.size w wr) (fun i wr => n - (intOf i).toNat)
  case atStart => exact ⟨0, Nat.zero_le _, rfl, Below.refl _ _⟩
  case round =>
    obtain ⟨k, hk, rfl, hbl⟩ := hrel
    by_cases hlt : k < n
    · obtain ⟨x, hx⟩ : ∃ x, l[k]? = some x := ⟨_, List.getElem?_eq_getElem (by rw [← HN.out]; exact hlt)⟩
      have q1 := HC.out k x hx
      have q2 := HD.out k x hx
      have a0 : wr.cell? ⟨g, o + k * 4, none⟩ = some (.string x.nm) := bel_cell hbl hg (q1 0 _ rfl)
      have a1 : wr.cell? ⟨g, o + k * 4 + 1, none⟩ = some (.int .i64 x.v.w) := bel_cell hbl hg (q1 1 _ rfl)
      have a2 : wr.cell? ⟨g, o + k * 4 + 2, none⟩ = some (.int .u64 x.v.lo) := bel_cell hbl hg (q1 2 _ rfl)
      have a3 : wr.cell? ⟨g, o + k * 4 + 3, none⟩ = some (.int .u64 x.v.hi) := bel_cell hbl hg (q1 3 _ rfl)
      have b0 : wr.cell? ⟨g', o' + k * 4, none⟩ = some (.string x.nm) := bel_cell hbl hg' (q2 0 _ rfl)
      have b1 : wr.cell? ⟨g', o' + k * 4 + 1, none⟩ = some (.int .i64 x.v.w) := bel_cell hbl hg' (q2 1 _ rfl)
      have b2 : wr.cell? ⟨g', o' + k * 4 + 2, none⟩ = some (.int .u64 x.v.lo) := bel_cell hbl hg' (q2 2 _ rfl)
      have b3 : wr.cell? ⟨g', o' + k * 4 + 3, none⟩ = some (.int .u64 x.v.hi) := bel_cell hbl hg' (q2 3 _ rfl)
      have hltI : (k : Int) < (n : Int) := by omega
      clear hx q1 q2
      go_wp2_with fail
      go_region_held3 (fun y => y.cell? ⟨g, o + k * 4, none⟩ = some (.string x.nm) ∧ y.cell? ⟨g, o + k * 4 + 1, none⟩ = some (.int .i64 x.v.w) ∧ y.cell? ⟨g, o + k * 4 + 2, none⟩ = some (.int .u64 x.v.lo) ∧ y.cell? ⟨g, o + k * 4 + 3, none⟩ = some (.int .u64 x.v.hi) ∧ y.cell? ⟨g', o' + k * 4, none⟩ = some (.string x.nm) ∧ y.cell? ⟨g', o' + k * 4 + 1, none⟩ = some (.int .i64 x.v.w) ∧ y.cell? ⟨g', o' + k * 4 + 2, none⟩ = some (.int .u64 x.v.lo) ∧ y.cell? ⟨g', o' + k * 4 + 3, none⟩ = some (.int .u64 x.v.hi))
        ((refine ⟨?_, ?_, ?_, ?_, ?_, ?_, ?_, ?_⟩ <;> simp [go_sem, a0, a1, a2, a3, b0, b1, b2, b3]))
        (fail)
      go_wp2_with fail
      exact ⟨⟨k + 1, by omega, by go_num, hbl.drew⟩, by simp [intOf]; omega⟩
    · obtain rfl : k = n := by omega
      have hltI : ¬ (k : Int) < (k : Int) := by omega
      go_wp2_with fail
      go_ret
      exact ⟨rfl, hbl⟩
open Go.RowKit

def b9 : Bt := ⟨4, 9, 0⟩
def b2 : Bt := ⟨4, 2, 0⟩
def M3 : Nd := ⟨29, 0, 1, 2, 0, 0, 0, 0, 0, 0, ⟨#[]⟩⟩
def K3 : List Nd := [N1, N2, M3]
def FL3 : List (Int × Bt) := [(1, b9), (2, b2), (3, zBt)]
def pvk (p : Int) : Bt := if p = 1 then b9 else if p = 2 then b2 else zBt
theorem bk9 : Bk b9 := ⟨by decide, by decide, by decide, by decide⟩
theorem bk2 : Bk b2 := ⟨by decide, by decide, by decide, by decide⟩
theorem Lb.two {w : World} {g o : Nat} {a b c : Bt} (h : Lb w g o [a, b, c]) : Lb w g o [a, b] := fun j x hj t u hu => h j x (by
  match j, hj with
  | 0, hj => exact hj
  | 1, hj => exact hj
  | k + 2, hj => simp at hj) t u hu
theorem wd9 : Wd 4 9 0 4 9 := ⟨by decide, by decide, by decide, rfl, rfl, rfl⟩
theorem wd2 : Wd 4 2 0 4 2 := ⟨by decide, by decide, by decide, rfl, rfl, rfl⟩

section
variable {w : World} {B g mi mv mo wb mg mk : Nat} {v : Value} {G M : List (Int × Bt)}
theorem pk1 (h : Gr w B g mi mv v mo K3) (hw : Wk w wb g mg mk [(1, b9)] M) :
    Rt 48 #[.pointer (some ⟨wb, 0, none⟩), .int .i64 1] w (.tuple #[.agg #[.int .i64 b9.w, .int .u64 b9.lo, .int .u64 b9.hi], .int .i64 0]) :=
  pv_var (i := 0) (n := N1) (u := b9) (ok := true) h hw rfl rfl (fun wx hb => fit_any (hw.below hb).gv (by unfold w64; decide) (fun p hp => by rw [List.mem_singleton.1 hp]; exact bk9))
theorem pk1n (h : Gr w B g mi mv v mo K3) (hw : Wk w wb g mg mk [] M) :
    Rt 48 #[.pointer (some ⟨wb, 0, none⟩), .int .i64 1] w (.tuple #[.agg #[.int .i64 zBt.w, .int .u64 zBt.lo, .int .u64 zBt.hi], .int .i64 41]) :=
  pv_var (i := 0) (n := N1) (u := zBt) (ok := false) h hw rfl rfl (fun wx hb => fit_any (hw.below hb).gv (by unfold w64; decide) (fun p hp => nomatch hp))
theorem pk2 (h : Gr w B g mi mv v mo K3) (hw : Wk w wb g mg mk G M) (h1 : getM M 1 = some b9) :
    Rt 48 #[.pointer (some ⟨wb, 0, none⟩), .int .i64 2] w (.tuple #[.agg #[.int .i64 b2.w, .int .u64 b2.lo, .int .u64 b2.hi], .int .i64 0]) :=
  pv_op2 (i := 1) (n := N2) (va := b9) (vb := b9) (vc := (getM M 0).getD zBt) (r := b2) (er := 0) h hw rfl (by decide) (by decide) (by unfold w64; decide) (by unfold w64; decide) (by unfold w64; decide) (by show b9 = (getM M 1).getD zBt; rw [h1]; rfl) (by show b9 = (getM M 1).getD zBt; rw [h1]; rfl) rfl
    (fun wx => arity_any 18 wx) (fun wx gb _ hgb hl => apply_two (s := 4) (by decide) (by decide) hl.two hgb bk9 bk9 (by decide) (fun wy => two_add wd9 wd9 wy))
theorem pk3 (h : Gr w B g mi mv v mo K3) (hw : Wk w wb g mg mk G M) (h1 : getM M 1 = some b9) (h2 : getM M 2 = some b2) :
    Rt 48 #[.pointer (some ⟨wb, 0, none⟩), .int .i64 3] w (.tuple #[.agg #[.int .i64 zBt.w, .int .u64 zBt.lo, .int .u64 zBt.hi], .int .i64 0]) :=
  pv_op2 (i := 2) (n := M3) (va := b9) (vb := b2) (vc := (getM M 0).getD zBt) (r := zBt) (er := 0) h hw rfl (by decide) (by decide) (by unfold w64; decide) (by unfold w64; decide) (by unfold w64; decide) (by show b9 = (getM M 1).getD zBt; rw [h1]; rfl) (by show b2 = (getM M 2).getD zBt; rw [h2]; rfl) rfl
    (fun wx => arity_any 29 wx) (fun wx gb _ hgb hl => apply_two (s := 0) (by decide) (by decide) hl.two hgb bk9 bk2 (by decide) (fun wy => two_cmp (k := 0) rfl (by decide) wd9 wd2 wy))
theorem vk (HG : Hid (∀ wx, w.grownBy wx (some mk) → Gr wx B g mi mv v mo K3)) {j id : Nat} (hc : (j = 0 ∧ (id = 1 ∨ id = 2 ∨ id = 3)) ∨ (j = 1 ∧ id = 2)) (hw : Wk w wb g mg mk [(1, b9)] (FL3.take j)) :
    Calls Tryz.prog 27 #[.pointer (some ⟨wb, 0, none⟩), .int .i64 (id : Int)] w fun e w' => e = .returned (.tuple #[.agg #[.int .i64 (pvk (id : Int)).w, .int .u64 (pvk (id : Int)).lo, .int .u64 (pvk (id : Int)).hi], .int .i64 0]) ∧ Wk w' wb g mg mk [(1, b9)] (FL3.take id) ∧ w.grownBy w' (some mk) := by
  refine val_loop (L := (List.range id).map fun (i : Nat) => (i : Int) + 1) (PV := fun _ p => (pvk p, 0)) (I := fun k M' => M' = FL3.take (max j k)) HG hw ?_ ?_ ?_ ?_ ?_ ?_ ?_ ?_ ?_ ?_
  · rcases hc with ⟨rfl, rfl | rfl | rfl⟩ | ⟨rfl, rfl⟩ <;> (unfold w64; decide)
  · rcases hc with ⟨rfl, rfl | rfl | rfl⟩ | ⟨rfl, rfl⟩ <;> rfl
  · rcases hc with ⟨rfl, rfl | rfl | rfl⟩ | ⟨rfl, rfl⟩ <;> rfl
  · rcases hc with ⟨rfl, rfl | rfl | rfl⟩ | ⟨rfl, rfl⟩ <;> decide
  · rcases hc with ⟨rfl, rfl | rfl | rfl⟩ | ⟨rfl, rfl⟩ <;> decide
  · intro k p M' wx hk hI hg hW
    subst hI
    have hG := HG.out wx hg
    have hkl : k < id := by
      have := (List.getElem?_eq_some_iff.1 hk).1
      simpa using this
    obtain rfl : (k : Int) + 1 = p := by
      rw [List.getElem?_map, List.getElem?_range hkl] at hk
      exact Option.some.inj hk
    have hk3 : k = 0 ∨ k = 1 ∨ k = 2 := by omega
    rcases hk3 with rfl | rfl | rfl
    · exact pk1 hG hW
    · refine pk2 hG hW ?_
      rcases hc with ⟨rfl, _⟩ | ⟨rfl, _⟩ <;> rfl
    · refine pk3 hG hW ?_ ?_ <;> rcases hc with ⟨rfl, _⟩ | ⟨rfl, _⟩ <;> rfl
  · rcases hc with ⟨rfl, _⟩ | ⟨rfl, _⟩ <;> rfl
  · intro k p M' hk hI
    subst hI
    have hkl : k < id := by
      have := (List.getElem?_eq_some_iff.1 hk).1
      simpa using this
    obtain rfl : (k : Int) + 1 = p := by
      rw [List.getElem?_map, List.getElem?_range hkl] at hk
      exact Option.some.inj hk
    have hk3 : k = 0 ∨ k = 1 ∨ k = 2 := by omega
    rcases hc with ⟨rfl, _⟩ | ⟨rfl, _⟩ <;> rcases hk3 with rfl | rfl | rfl <;> first | exact ⟨(fun h => by cases h), (fun _ _ => rfl)⟩ | exact ⟨(fun _ => rfl), (fun h => by cases h)⟩ | omega
  · rcases hc with ⟨rfl, rfl | rfl | rfl⟩ | ⟨rfl, rfl⟩ <;> rfl
  · rcases hc with ⟨rfl, rfl | rfl | rfl⟩ | ⟨rfl, rfl⟩ <;> rfl
theorem vk3n (HG : Hid (∀ wx, w.grownBy wx (some mk) → Gr wx B g mi mv v mo K3)) (hw : Wk w wb g mg mk [] []) :
    Calls Tryz.prog 27 #[.pointer (some ⟨wb, 0, none⟩), .int .i64 3] w fun e w' => e = .returned (.tuple #[.agg #[.int .i64 zBt.w, .int .u64 zBt.lo, .int .u64 zBt.hi], .int .i64 41]) ∧ Wk w' wb g mg mk [] [] ∧ w.grownBy w' (some mk) := by
  refine val_loop (L := [1, 2, 3]) (PV := fun _ _ => (zBt, 41)) (I := fun k M' => k = 0 ∧ M' = []) HG hw (by unfold w64; decide) rfl rfl (by decide) (by decide) ?_ ⟨rfl, rfl⟩ ?_ rfl rfl
  · rintro k p M' wx hk ⟨rfl, rfl⟩ hg hW
    obtain rfl : (1 : Int) = p := Option.some.inj hk
    exact pk1n (HG.out wx hg) hW
  · rintro k p M' hk ⟨rfl, rfl⟩
    exact ⟨(fun h => by cases h), (fun _ h => by cases h)⟩
end

def Ex : Nv := ⟨⟨#[120]⟩, b9⟩
theorem fvE : fvF K3 [Ex] = [(1, b9)] := by rfl
theorem gr_of {w wx : World} {B g mi mv mo mk : Nat} {v : Value} {ns : List Nd} (h : Gr w B g mi mv v mo ns) (hb : Below w.heap.size w wx) (hmk : w.heap.size ≤ mk) : Hid (∀ wy, wx.grownBy wy (some mk) → Gr wy B g mi mv v mo ns) :=
  fun wy hy => h.kept fun k hk => (hy.block k (Nat.lt_of_lt_of_le hk hb.size) (fun e => by cases e; omega)).trans (hb.block k hk)
section
variable {w : World} {B g mi mv mo c : Nat} {v : Value} {a : Option Addr}
theorem ek (h : Gr w B g mi mv v mo K3) (he : Le w a [Ex]) {id : Nat} (hid : id = 1 ∨ id = 2 ∨ id = 3) :
    Rt 9 #[.pointer (some ⟨g, 0, none⟩), .int .i64 (id : Int), .slice a 1 c] w (.tuple #[.agg #[.int .i64 (pvk (id : Int)).w, .int .u64 (pvk (id : Int)).lo, .int .u64 (pvk (id : Int)).hi], .int .i64 0]) := by
  refine eval_of (l := [Ex]) h he (fun x hx => by rw [List.mem_singleton.1 hx]; decide) (by decide) ?_
  intro wx wb mg mk hb hmk hW
  rw [fvE] at hW
  exact (vk (gr_of h hb hmk) (j := 0) (Or.inl ⟨rfl, hid⟩) hW).mono (fun e w' hh => ⟨hh.1, hh.2.2⟩)
theorem ek4 (h : Gr w B g mi mv v mo K3) (he : Le w a [Ex]) :
    Rt 9 #[.pointer (some ⟨g, 0, none⟩), .int .i64 4, .slice a 1 c] w (.tuple #[.agg #[.int .i64 zBt.w, .int .u64 zBt.lo, .int .u64 zBt.hi], .int .i64 40]) := by
  refine eval_of (l := [Ex]) h he (fun x hx => by rw [List.mem_singleton.1 hx]; decide) (by decide) ?_
  intro wx wb mg mk hb hmk hW
  exact (val_none (h.below hb) hW (by unfold w64; decide) rfl rfl).mono (fun e w' hh => ⟨hh.1, gb_below hh.2⟩)
theorem ek3n (h : Gr w B g mi mv v mo K3) :
    Rt 9 #[.pointer (some ⟨g, 0, none⟩), .int .i64 3, .slice none 0 0] w (.tuple #[.agg #[.int .i64 zBt.w, .int .u64 zBt.lo, .int .u64 zBt.hi], .int .i64 41]) := by
  refine eval_of (l := []) (c := 0) h (Or.inl rfl) (fun x hx => nomatch hx) (by decide) ?_
  intro wx wb mg mk hb hmk hW
  exact (vk3n (gr_of h hb hmk) hW).mono (fun e w' hh => ⟨hh.1, hh.2.2⟩)
theorem ak (h : Gr w B g mi mv v mo K3) (he : Le w a [Ex]) {gi ci : Nat} (hids : Li w gi 0 [1, 2]) (hgi : gi < w.heap.size) :
    Calls Tryz.prog 11 #[.pointer (some ⟨g, 0, none⟩), .slice (some ⟨gi, 0, none⟩) 2 ci, .slice a 1 c] w fun e w' => ∃ u, e = .returned (.tuple #[u, .int .i64 0]) ∧ AllR w' w.heap.size u [b9, b2] 0 ∧ Below w.heap.size w w' := by
  refine all_of (l := [Ex]) (ids := [1, 2]) (VF := fun _ p => if p = 1 then (FL3.take 1, b9, 0) else (FL3.take 2, b2, 0)) (I := fun k M' => M' = FL3.take k) h he (fun x hx => by rw [List.mem_singleton.1 hx]; decide) (by decide) hids hgi (by decide) ?_ rfl ?_ rfl
  · intro k p M' wx wb mg mk hk hI hbl hg hmk hW
    subst hI
    rw [fvE] at hW ⊢
    have hb : Below w.heap.size w wx := ⟨hg.os, hg.tape, hg.output, hg.size, hbl⟩
    match k, hk with
    | 0, hk =>
      obtain rfl : (1 : Int) = p := Option.some.inj hk
      exact vk (gr_of h hb hmk) (j := 0) (id := 1) (Or.inl ⟨rfl, Or.inl rfl⟩) hW
    | 1, hk =>
      obtain rfl : (2 : Int) = p := Option.some.inj hk
      exact vk (gr_of h hb hmk) (j := 1) (id := 2) (Or.inr ⟨rfl, rfl⟩) hW
    | k + 2, hk => simp at hk
  · intro k p M' hk hI _
    match k, hk with
    | 0, hk =>
      obtain rfl : (1 : Int) = p := Option.some.inj hk
      rfl
    | 1, hk =>
      obtain rfl : (2 : Int) = p := Option.some.inj hk
      rfl
    | k + 2, hk => simp at hk
end
end Go.Proofs.YtnflphhckgeneaaGreat
