/- No two nodes of a graph are the same, operands come first, what was made once is found ever after, refused calls change nothing: the walk. -/
import Derived.Test.YtjmbicaacplolaaY17
import Derived.Deep.OwnRows
import Derived.Deep.QuietTactic
import Derived.BigQuiet
namespace Go.Proofs.Ytjmbicaacplolaa
open Go.RowKit
set_option linter.unusedSimpArgs false
set_option linter.unusedVariables false

theorem Gr.set {w : World} {B g mi mv mo : Nat} {v : Value} {ns : List Nd} (h : Gr w B g mi mv v mo ns) {K i : Nat} {u : Value} (hg : K ≠ g) (hi : K ≠ mi) (hv : K ≠ mv) (ho : v.ownBlock ≠ some K) : Gr (w.setCell ⟨K, i, none⟩ u) B g mi mv v mo ns :=
  ⟨(Below.heap_setCell w ⟨K, i, none⟩ u g (fun e => hg e.symm)).trans h.hd, ownsRow_setCell_other h.row ho u, h.ids.kept (Below.heap_setCell w ⟨K, i, none⟩ u mi (fun e => hi e.symm)), h.vars.kept (Below.heap_setCell w ⟨K, i, none⟩ u mv (fun e => hv e.symm)), h.bg, h.bi, h.bv, h.ne, h.most, h.room, h.inv⟩

/-- The graph, and the list of the first k numbers. -/
structure On (w wr : World) (B K R : Nat) (l : List Nd) (k : Nat) (v : Value) (ns : List Nd) (f : Nat → Int) : Prop where
  gr : Gr wr B (B + 2) B (B + 1) v R ns
  vk : v.ownBlock ≠ some K
  row : wr.rowIs K 3 l.length (fun j => .int .i64 (f j))
  got : ∀ j, j < k → ∀ m, l[j]? = some m → Got ns m (f j)
  bk : B + 2 < K
  lo : w.heap.size ≤ B
  bel : Below w.heap.size w wr
theorem On.size {w wr : World} {B K R k : Nat} {l ns : List Nd} {v : Value} {f : Nat → Int} (h : On w wr B K R l k v ns f) : B ≤ wr.heap.size := by have := h.gr.lt; omega
theorem On.below {w wr wx : World} {B K R k : Nat} {l ns : List Nd} {v : Value} {f : Nat → Int} (h : On w wr B K R l k v ns f) (hb : Below wr.heap.size wr wx) : On w wx B K R l k v ns f :=
  ⟨h.gr.below hb, h.vk, h.row.of_block (hb.block K h.row.lt), h.got, h.bk, h.lo, h.bel.trans (hb.mono h.bel.size)⟩
theorem On.made {w wr w2 : World} {B K R k : Nat} {l ns : List Nd} {v v' : Value} {f : Nat → Int} (h : On w wr B K R l k v ns f) (hC : Chg wr w2 (B + 2) B (B + 1) v) : w2.rowIs K 3 l.length (fun j => .int .i64 (f j)) :=
  h.row.of_block (hC.block K h.row.lt (by have := h.bk; omega) (by have := h.bk; omega) (by have := h.bk; omega) (fun e => h.vk e.symm))
theorem On.step {w wr w2 : World} {B K R k : Nat} {l ns ns' : List Nd} {v v' : Value} {f : Nat → Int} {m : Nd} {id er : Int} (h : On w wr B K R l k v ns f) (hm : l[k]? = some m) (hM : Mkd R ns m id er ns')
    (hG : Gr w2 B (B + 2) B (B + 1) v' R ns') (hC : Chg wr w2 (B + 2) B (B + 1) v) (hv : v'.ownBlock = v.ownBlock ∨ ∃ b, v'.ownBlock = some b ∧ wr.heap.size ≤ b) :
    On w (w2.setCell ⟨K, k, none⟩ (.int .i64 id)) B K R l (k + 1) v' ns' (fun j => if j = k then id else f j) := by
  have hbk := h.bk
  have hvk : v'.ownBlock ≠ some K := by
    rcases hv with e | ⟨b, e, hb⟩
    · rw [e]; exact h.vk
    · rw [e]; intro e2; cases e2; have := h.row.lt; omega
  refine ⟨hG.set (by omega) (by omega) (by omega) hvk, hvk, ((h.made (v' := v') hC).set k _).congr (fun j _ => ?_), fun j hj m' hm' => ?_, hbk, h.lo, ?_⟩
  · by_cases e : j = k <;> simp [e]
  · by_cases e : j = k
    · subst e
      rw [hm] at hm'
      cases hm'
      rw [if_pos rfl]
      exact Got.made hM hG.inv
    · rw [if_neg e]
      exact (h.got j (by omega) m' hm').more hM hG.inv
  · exact (h.bel.trans ((hC.low h.gr h.size).mono h.lo)).setCell (by show w.heap.size ≤ K; have := h.lo; omega) _

set_option maxRecDepth 20000 in
set_option maxHeartbeats 25600000 in
theorem walk_once_of {a : Option Addr} {c : Nat} {l : List Nd} (most : Int) (w : World) (hL : La w a l) (hok : ∀ n ∈ l, Ok n) (hlit : litB l = true) :
    Calls Try.prog 5 #[.int .i64 most, .slice a l.length c] w fun e w' => e = .returned (.bool true) ∧ Below w.heap.size w w' := by
  have h200 : l.length ≤ 200 := by
    unfold litB at hlit
    rw [Bool.and_eq_true] at hlit
    exact of_decide_eq_true hlit.1
  have hmx : l.length ≤ maxLen := by unfold maxLen; omega
  obtain ⟨n, hn⟩ : ∃ n, n = l.length := ⟨_, rfl⟩
  have HN : Hid _ := hn
  have HLI : Hid (∀ wx, Below w.heap.size w wx → Calls Try.prog 9 #[.slice a n c] wx fun e w' => e = .returned (.bool true) ∧ w' = wx) := fun wx hb => by
    have := light_a (c := c) (hL.below hb) hmx
    rw [hlit] at this; rw [hn]; exact this
  obtain ⟨R, hR⟩ : ∃ R, R = roomOf most := ⟨_, rfl⟩
  have HR : Hid _ := hR
  have HNW : Hid (∀ wx, Calls Try.prog 10 #[.int .i64 most] wx fun e w' => e = .returned (.pointer (some ⟨wx.heap.size + 2, 0, none⟩)) ∧ Below wx.heap.size wx w' ∧ Gr w' wx.heap.size (wx.heap.size + 2) wx.heap.size (wx.heap.size + 1) (.slice none 0 0) R []) := fun wx => by rw [hR]; exact new_any most wx
  obtain ⟨t0, ht0, hz0, hz1, hz2⟩ := info_parts info3
  have hn200 : n ≤ 200 := by omega
  have hmk := run_make_row (P := Try.prog) 45 3 t0 (.int .i64 0) under45 ht0 hz0 hz1 rfl .i64 .i64 n (by rw [hz2]; omega) (by omega)
  have HLa : Hid _ := hL
  have HOK : Hid _ := hok
  rw [← hn]
  clear hn hR ht0 hz0 hz1 hz2 hL hok hlit hmx h200
  have hnx : ∀ x : Int, (x != x) = false := fun x => by simp
  go_enter Try.func5, Try.ntmps5
  go_wp2_with fail
  refine (known_any _).mono ?_
  rintro e wa ⟨rfl, hba⟩
  go_wp2_with fail
  refine (HLI.out _ hba).mono ?_
  rintro e wq ⟨rfl, hq⟩
  rw [hq]
  clear hq wq
  go_wp2_with fail
  refine (HNW.out _).mono ?_
  rintro e wb ⟨rfl, hbb, hG⟩
  have HO : Hid (On w (wb.alloc (.cells (madeCells #[.int .i64 0] n) 3)) wa.heap.size wb.heap.size R l 0 (.slice none 0 0) [] (fun _ => 0)) :=
    ⟨hG.alloc _, by simp [Value.ownBlock], by rw [← HN.out]; exact World.rowIs_made wb _ n _, (fun j hj => by omega), by have := hG.lt; omega, hba.size, (hba.trans (hbb.mono hba.size)).alloc (Nat.le_trans hba.size hbb.size) _⟩
  clear hG hbb hba HNW HLI
  go_wp2_with fail
  clear hmk
  go_loopw [7] (fun i wr => ∃ k : Nat, k ≤ n ∧ i = .int .i64 (k : Int) ∧ ∃ v ns f, On w wr wa.heap.size wb.heap.size R l k v ns f) (fun i wr => n - (intOf i).toNat)
  case atStart => exact ⟨0, Nat.zero_le _, rfl, _, _, _, HO.out⟩
  case round =>
    clear HO
    obtain ⟨k, hk, rfl, v, ns, f, hO⟩ := hrel
    have HO : Hid _ := hO
    clear hO
    by_cases hlt : k < n
    · obtain ⟨m, hm⟩ : ∃ m, l[k]? = some m := ⟨_, List.getElem?_eq_getElem (by rw [← HN.out]; exact hlt)⟩
      obtain ⟨gl, o, rfl, hgl, hLn⟩ : ∃ gl o, a = some ⟨gl, o, none⟩ ∧ gl < w.heap.size ∧ Ln w gl o l := by
        rcases HLa.out with e | h
        · rw [e] at hm; simp at hm
        · exact h
      have hc := hLn k m hm
      have hbl := HO.out.bel
      have d0 : wr.cell? ⟨gl, o + k * 11, none⟩ = some (.int .i64 m.op) := bel_cell hbl hgl (hc 0 _ rfl)
      have d1 : wr.cell? ⟨gl, o + k * 11 + 1, none⟩ = some (.int .i64 m.s) := bel_cell hbl hgl (hc 1 _ rfl)
      have d2 : wr.cell? ⟨gl, o + k * 11 + 2, none⟩ = some (.int .i64 m.a) := bel_cell hbl hgl (hc 2 _ rfl)
      have d3 : wr.cell? ⟨gl, o + k * 11 + 3, none⟩ = some (.int .i64 m.b) := bel_cell hbl hgl (hc 3 _ rfl)
      have d4 : wr.cell? ⟨gl, o + k * 11 + 4, none⟩ = some (.int .i64 m.c) := bel_cell hbl hgl (hc 4 _ rfl)
      have d5 : wr.cell? ⟨gl, o + k * 11 + 5, none⟩ = some (.int .i64 m.p) := bel_cell hbl hgl (hc 5 _ rfl)
      have d6 : wr.cell? ⟨gl, o + k * 11 + 6, none⟩ = some (.int .i64 m.q) := bel_cell hbl hgl (hc 6 _ rfl)
      have d7 : wr.cell? ⟨gl, o + k * 11 + 7, none⟩ = some (.int .i64 m.w) := bel_cell hbl hgl (hc 7 _ rfl)
      have d8 : wr.cell? ⟨gl, o + k * 11 + 8, none⟩ = some (.int .u64 m.lo) := bel_cell hbl hgl (hc 8 _ rfl)
      have d9 : wr.cell? ⟨gl, o + k * 11 + 9, none⟩ = some (.int .u64 m.hi) := bel_cell hbl hgl (hc 9 _ rfl)
      have d10 : wr.cell? ⟨gl, o + k * 11 + 10, none⟩ = some (.string m.nm) := bel_cell hbl hgl (hc 10 _ rfl)
      obtain ⟨id, er, ns', hM⟩ := mkd_any R ns m HO.out.gr.room
      have HMM : Hid _ := hM
      have HM : Hid _ := hm
      have HMK : Hid _ := mk_any HO.out.gr (HOK.out m (List.mem_of_getElem? hm)) hM HO.out.size
      have HLE : Hid _ := glen_any HO.out.gr
      have HNO : Hid _ := hM.no
      clear hc hLn hbl hm hM
      have ek : wrap64 ((k : Int) + 1) = (k : Int) + 1 := by unfold wrap64; omega
      have hlt' : (k : Int) < (n : Int) := by omega
      obtain ⟨N, hN⟩ : ∃ N, N = ns.length := ⟨_, rfl⟩
      rw [← hN] at HLE
      go_wp2_with fail
      refine Calls.mono HLE.out ?_
      rintro e wq ⟨rfl, hq⟩
      rw [hq]
      clear hq wq
      go_wp2_with fail
      refine Calls.mono HMK.out ?_
      rintro e w2 ⟨rfl, v', hG', hC, hv'⟩
      have kc : w2.cell? ⟨wb.heap.size, k, none⟩ = some (.int .i64 (f k)) := (HO.out.made (v' := v') hC).cell (by rw [← HN.out]; exact hlt)
      have kf : w2.frozen? ⟨wb.heap.size, k, none⟩ = false := (HO.out.made (v' := v') hC).frozen k
      have HS : Hid _ := HO.out.step HM.out HMM.out hG' hC hv'
      have HLE2 : Hid _ := glen_any hG'
      clear hG' hC hv' HLE HMK
      by_cases hez : er = 0
      · subst hez
        clear HNO HLE2
        go_wp2_with fail
        exact ⟨⟨k + 1, by omega, by go_num, _, _, _, HS.out⟩, by simp [intOf]; omega⟩
      · obtain ⟨hid, hns⟩ := HNO.out hez
        subst hid
        subst hns
        rw [← hN] at HLE2
        have hne0 : (er != 0) = true := by simp [hez]
        clear HNO
        go_wp2_with fail
        refine Calls.mono HLE2.out ?_
        rintro e wq ⟨rfl, hq⟩
        rw [hq]
        clear hq wq
        go_wp2_with fail
        exact ⟨⟨k + 1, by omega, by go_num, _, _, _, HS.out⟩, by simp [intOf]; omega⟩
    · obtain rfl : k = n := by omega
      have hlt' : ¬ (k : Int) < (k : Int) := by omega
      go_wp2_with fail
      clear hlt'
      go_loopw [11] (fun i wx => ∃ j : Nat, j ≤ k ∧ i = .int .i64 (j : Int) ∧ On w wx wa.heap.size wb.heap.size R l k v ns f) (fun i wx => k - (intOf i).toNat)
      case atStart => exact ⟨0, Nat.zero_le _, rfl, HO.out⟩
      case round =>
        clear HO
        obtain ⟨j, hj, rfl, hO⟩ := hrel
        have HO : Hid _ := hO
        clear hO
        by_cases hlt : j < k
        · obtain ⟨m, hm⟩ : ∃ m, l[j]? = some m := ⟨_, List.getElem?_eq_getElem (by rw [← HN.out]; exact hlt)⟩
          obtain ⟨gl, o, rfl, hgl, hLn⟩ : ∃ gl o, a = some ⟨gl, o, none⟩ ∧ gl < w.heap.size ∧ Ln w gl o l := by
            rcases HLa.out with e | h
            · rw [e] at hm; simp at hm
            · exact h
          have hc := hLn j m hm
          have hbl := HO.out.bel
          have d0 : wr.cell? ⟨gl, o + j * 11, none⟩ = some (.int .i64 m.op) := bel_cell hbl hgl (hc 0 _ rfl)
          have d1 : wr.cell? ⟨gl, o + j * 11 + 1, none⟩ = some (.int .i64 m.s) := bel_cell hbl hgl (hc 1 _ rfl)
          have d2 : wr.cell? ⟨gl, o + j * 11 + 2, none⟩ = some (.int .i64 m.a) := bel_cell hbl hgl (hc 2 _ rfl)
          have d3 : wr.cell? ⟨gl, o + j * 11 + 3, none⟩ = some (.int .i64 m.b) := bel_cell hbl hgl (hc 3 _ rfl)
          have d4 : wr.cell? ⟨gl, o + j * 11 + 4, none⟩ = some (.int .i64 m.c) := bel_cell hbl hgl (hc 4 _ rfl)
          have d5 : wr.cell? ⟨gl, o + j * 11 + 5, none⟩ = some (.int .i64 m.p) := bel_cell hbl hgl (hc 5 _ rfl)
          have d6 : wr.cell? ⟨gl, o + j * 11 + 6, none⟩ = some (.int .i64 m.q) := bel_cell hbl hgl (hc 6 _ rfl)
          have d7 : wr.cell? ⟨gl, o + j * 11 + 7, none⟩ = some (.int .i64 m.w) := bel_cell hbl hgl (hc 7 _ rfl)
          have d8 : wr.cell? ⟨gl, o + j * 11 + 8, none⟩ = some (.int .u64 m.lo) := bel_cell hbl hgl (hc 8 _ rfl)
          have d9 : wr.cell? ⟨gl, o + j * 11 + 9, none⟩ = some (.int .u64 m.hi) := bel_cell hbl hgl (hc 9 _ rfl)
          have d10 : wr.cell? ⟨gl, o + j * 11 + 10, none⟩ = some (.string m.nm) := bel_cell hbl hgl (hc 10 _ rfl)
          have kc0 : wr.cell? ⟨wb.heap.size, j, none⟩ = some (.int .i64 (f j)) := HO.out.row.cell (by rw [← HN.out]; exact hlt)
          have hj' : (j : Int) < (k : Int) := by omega
          have ej : wrap64 ((j : Int) + 1) = (j : Int) + 1 := by unfold wrap64; omega
          rcases HO.out.got j hlt m hm with h0 | ⟨s, i, hx, hi, hs⟩
          · rw [h0] at kc0
            clear hc hLn hbl hm
            go_wp2_with fail
            exact ⟨⟨j + 1, by omega, by go_num, HO.out⟩, by simp [intOf]; omega⟩
          · rw [hx] at kc0
            have hkids := HO.out.gr.inv.kids i _ hi
            have hka : m.a ≤ i := hkids.2.1
            have hkb : m.b ≤ i := hkids.2.2.2.1
            have hkc : m.c ≤ i := hkids.2.2.2.2.2
            have x1 : (((i : Int) + 1) == 0) = false := by simp; omega
            have x2 : decide ((i : Int) + 1 ≤ m.a) = false := by simp; omega
            have x3 : decide ((i : Int) + 1 ≤ m.b) = false := by simp; omega
            have x4 : decide ((i : Int) + 1 ≤ m.c) = false := by simp; omega
            have HMK : Hid _ := mk_old HO.out.gr (HOK.out m (List.mem_of_getElem? hm)).fi hs hi
            have HND : Hid (∀ wx, Gr wx wa.heap.size (wa.heap.size + 2) wa.heap.size (wa.heap.size + 1) v R ns → Calls Try.prog 15 #[.pointer (some ⟨wa.heap.size + 2, 0, none⟩), .int .i64 ((i : Int) + 1)] wx fun e w' => e = .returned (.tuple #[.agg #[.int .i64 m.op, .int .i64 s, .int .i64 m.a, .int .i64 m.b, .int .i64 m.c, .int .i64 m.p, .int .i64 m.q, .int .i64 m.w, .int .u64 m.lo, .int .u64 m.hi, .string m.nm], .bool true]) ∧ Below wx.heap.size wx w') := fun wx hg => node_yes (n := m.wi s) hg hi
            have hgl2 : gl < wr.heap.size := Nat.lt_of_lt_of_le hgl hbl.size
            have hK2 : wb.heap.size < wr.heap.size := HO.out.row.lt
            clear hc hLn hm hi hs hx hkids hka hkb hkc
            go_wp2_with fail
            refine Calls.mono HMK.out ?_
            rintro e w2 ⟨rfl, hb2⟩
            have HO2 : Hid _ := HO.out.below hb2
            clear HMK
            go_wp2_with fail
            refine Calls.mono (HND.out _ HO2.out.gr) ?_
            rintro e w3 ⟨rfl, hb3⟩
            have HO3 : Hid _ := HO2.out.below hb3
            have q1 : w3.cell? ⟨wb.heap.size, j, none⟩ = some (.int .i64 ((i : Int) + 1)) := bel_cell hb3 (Nat.lt_of_lt_of_le hK2 hb2.size) (bel_cell hb2 hK2 kc0)
            have q2 : w3.cell? ⟨gl, o + j * 11, none⟩ = some (.int .i64 m.op) := bel_cell hb3 (Nat.lt_of_lt_of_le hgl2 hb2.size) (bel_cell hb2 hgl2 d0)
            have hK3 : wb.heap.size < w3.heap.size := by have := hb2.size; have := hb3.size; omega
            have hgl3 : gl < w3.heap.size := by have := hb2.size; have := hb3.size; omega
            have hb4 : Below w3.heap.size w3 (w3.alloc (.cells #[.int .i64 m.op, .int .i64 s, .int .i64 m.a, .int .i64 m.b, .int .i64 m.c, .int .i64 m.p, .int .i64 m.q, .int .i64 m.w, .int .u64 m.lo, .int .u64 m.hi, .string m.nm] 36)) := by go_grown
            have HO4 : Hid _ := HO3.out.below hb4
            clear hb4 hb3 hb2 HO2 HO3 HND d0 d1 d2 d3 d4 d5 d6 d7 d8 d9 d10 kc0
            go_wp2_with fail
            go_quiet (fail)
            go_wp2_with fail
            exact ⟨⟨j + 1, by omega, by go_num, HO4.out.below (below_drewN (Below.refl _ _) _)⟩, by simp [intOf]; omega⟩
        · obtain rfl : j = k := by omega
          have hlt' : ¬ (j : Int) < (j : Int) := by omega
          have HG : Hid _ := HO.out.gr
          have hbl := HO.out.bel
          have hnd := HO.out.gr.inv.once
          have HD : Hid _ := hnd
          have hroom := HO.out.gr.room
          have hlen := HO.out.gr.len
          clear hnd HO
          obtain ⟨N, hN⟩ : ∃ N, N = ns.length := ⟨_, rfl⟩
          have HNN : Hid _ := hN
          rw [← hN] at hroom hlen
          clear hN
          go_wp2_with fail
          clear hlt'
          go_loopw [16] (fun i wx => ∃ p : Nat, p ≤ N ∧ i = .int .i64 ((p : Int) + 1) ∧ Gr wx wa.heap.size (wa.heap.size + 2) wa.heap.size (wa.heap.size + 1) v R ns ∧ Below w.heap.size w wx) (fun i wx => N + 1 - (intOf i).toNat)
          case atStart => exact ⟨0, Nat.zero_le _, rfl, HG.out, hbl⟩
          case round =>
            clear HG hbl
            obtain ⟨p, hp, rfl, hG, hbl⟩ := hrel
            have HG : Hid _ := hG
            have HLE : Hid _ := glen_any hG
            rw [← HNN.out] at HLE
            clear hG
            by_cases hlt : p < N
            · obtain ⟨x, hx⟩ : ∃ x, ns[p]? = some x := ⟨_, List.getElem?_eq_getElem (by rw [← HNN.out]; exact hlt)⟩
              have HX : Hid _ := hx
              have HND : Hid _ := node_yes HG.out hx
              have y1 : (p : Int) + 1 ≤ (N : Int) := by omega
              have ep : wrap64 ((p : Int) + 1 + 1) = (p : Int) + 1 + 1 := by unfold wrap64; omega
              clear hx
              go_wp2_with fail
              refine Calls.mono HLE.out ?_
              rintro e wq ⟨rfl, hq⟩
              rw [hq]
              clear hq wq HLE
              go_wp2_with fail
              refine Calls.mono HND.out ?_
              rintro e w3 ⟨rfl, hb3⟩
              have HG3 : Hid (Gr (w3.alloc (.cells #[.int .i64 x.op, .int .i64 x.s, .int .i64 x.a, .int .i64 x.b, .int .i64 x.c, .int .i64 x.p, .int .i64 x.q, .int .i64 x.w, .int .u64 x.lo, .int .u64 x.hi, .string x.nm] 36)) wa.heap.size (wa.heap.size + 2) wa.heap.size (wa.heap.size + 1) v R ns) := (HG.out.below hb3).alloc _
              have hbl3 : Below w.heap.size w w3 := hbl.trans (hb3.mono hbl.size)
              have hsz3 := hbl3.size
              clear HG hb3 HND hbl
              go_wp2_with fail
              go_loopw [19] (fun i wx => ∃ q : Nat, q ≤ p ∧ i = .int .i64 ((q : Int) + 1) ∧ Gr wx wa.heap.size (wa.heap.size + 2) wa.heap.size (wa.heap.size + 1) v R ns ∧ Below (w3.heap.size + 1) (w3.alloc (.cells #[.int .i64 x.op, .int .i64 x.s, .int .i64 x.a, .int .i64 x.b, .int .i64 x.c, .int .i64 x.p, .int .i64 x.q, .int .i64 x.w, .int .u64 x.lo, .int .u64 x.hi, .string x.nm] 36)) wx) (fun i wx => p + 1 - (intOf i).toNat)
              case atStart => exact ⟨0, Nat.zero_le _, rfl, HG3.out, Below.refl _ _⟩
              case round =>
                clear HG3
                obtain ⟨q, hq, rfl, hG, hbq⟩ := hrel
                have HG : Hid _ := hG
                clear hG
                by_cases hlt2 : q < p
                · obtain ⟨y, hy⟩ : ∃ y, ns[q]? = some y := ⟨_, List.getElem?_eq_getElem (by rw [← HNN.out]; omega)⟩
                  have HND : Hid _ := node_yes HG.out hy
                  have hne : x ≠ y := fun e => by
                    obtain ⟨h1, e1⟩ := List.getElem?_eq_some_iff.1 HX.out
                    obtain ⟨h2, e2⟩ := List.getElem?_eq_some_iff.1 hy
                    exact List.pairwise_iff_getElem.1 HD.out q p h2 h1 hlt2 (by rw [e1, e2, e])
                  have hneq := ne_nd hne
                  have y2 : (q : Int) + 1 < (p : Int) + 1 := by omega
                  have eq : wrap64 ((q : Int) + 1 + 1) = (q : Int) + 1 + 1 := by unfold wrap64; omega
                  have hs4 : w3.heap.size + 1 ≤ wr.heap.size := by have := hbq.size; simp at this; exact this
                  clear hy hne
                  go_wp2_with fail
                  refine Calls.mono HND.out ?_
                  rintro e w5 ⟨rfl, hb5⟩
                  have b0 : w5.cell? ⟨w3.heap.size, 0, none⟩ = some (.int .i64 x.op) := by rw [hb5.cell (p := ⟨w3.heap.size, 0, none⟩) (by show w3.heap.size < wr.heap.size; omega), hbq.cell (p := ⟨w3.heap.size, 0, none⟩) (by show w3.heap.size < w3.heap.size + 1; omega)]; simp
                  have b1 : w5.cell? ⟨w3.heap.size, 1, none⟩ = some (.int .i64 x.s) := by rw [hb5.cell (p := ⟨w3.heap.size, 1, none⟩) (by show w3.heap.size < wr.heap.size; omega), hbq.cell (p := ⟨w3.heap.size, 1, none⟩) (by show w3.heap.size < w3.heap.size + 1; omega)]; simp
                  have b2 : w5.cell? ⟨w3.heap.size, 2, none⟩ = some (.int .i64 x.a) := by rw [hb5.cell (p := ⟨w3.heap.size, 2, none⟩) (by show w3.heap.size < wr.heap.size; omega), hbq.cell (p := ⟨w3.heap.size, 2, none⟩) (by show w3.heap.size < w3.heap.size + 1; omega)]; simp
                  have b3 : w5.cell? ⟨w3.heap.size, 3, none⟩ = some (.int .i64 x.b) := by rw [hb5.cell (p := ⟨w3.heap.size, 3, none⟩) (by show w3.heap.size < wr.heap.size; omega), hbq.cell (p := ⟨w3.heap.size, 3, none⟩) (by show w3.heap.size < w3.heap.size + 1; omega)]; simp
                  have b4 : w5.cell? ⟨w3.heap.size, 4, none⟩ = some (.int .i64 x.c) := by rw [hb5.cell (p := ⟨w3.heap.size, 4, none⟩) (by show w3.heap.size < wr.heap.size; omega), hbq.cell (p := ⟨w3.heap.size, 4, none⟩) (by show w3.heap.size < w3.heap.size + 1; omega)]; simp
                  have b5 : w5.cell? ⟨w3.heap.size, 5, none⟩ = some (.int .i64 x.p) := by rw [hb5.cell (p := ⟨w3.heap.size, 5, none⟩) (by show w3.heap.size < wr.heap.size; omega), hbq.cell (p := ⟨w3.heap.size, 5, none⟩) (by show w3.heap.size < w3.heap.size + 1; omega)]; simp
                  have b6 : w5.cell? ⟨w3.heap.size, 6, none⟩ = some (.int .i64 x.q) := by rw [hb5.cell (p := ⟨w3.heap.size, 6, none⟩) (by show w3.heap.size < wr.heap.size; omega), hbq.cell (p := ⟨w3.heap.size, 6, none⟩) (by show w3.heap.size < w3.heap.size + 1; omega)]; simp
                  have b7 : w5.cell? ⟨w3.heap.size, 7, none⟩ = some (.int .i64 x.w) := by rw [hb5.cell (p := ⟨w3.heap.size, 7, none⟩) (by show w3.heap.size < wr.heap.size; omega), hbq.cell (p := ⟨w3.heap.size, 7, none⟩) (by show w3.heap.size < w3.heap.size + 1; omega)]; simp
                  have b8 : w5.cell? ⟨w3.heap.size, 8, none⟩ = some (.int .u64 x.lo) := by rw [hb5.cell (p := ⟨w3.heap.size, 8, none⟩) (by show w3.heap.size < wr.heap.size; omega), hbq.cell (p := ⟨w3.heap.size, 8, none⟩) (by show w3.heap.size < w3.heap.size + 1; omega)]; simp
                  have b9 : w5.cell? ⟨w3.heap.size, 9, none⟩ = some (.int .u64 x.hi) := by rw [hb5.cell (p := ⟨w3.heap.size, 9, none⟩) (by show w3.heap.size < wr.heap.size; omega), hbq.cell (p := ⟨w3.heap.size, 9, none⟩) (by show w3.heap.size < w3.heap.size + 1; omega)]; simp
                  have b10 : w5.cell? ⟨w3.heap.size, 10, none⟩ = some (.string x.nm) := by rw [hb5.cell (p := ⟨w3.heap.size, 10, none⟩) (by show w3.heap.size < wr.heap.size; omega), hbq.cell (p := ⟨w3.heap.size, 10, none⟩) (by show w3.heap.size < w3.heap.size + 1; omega)]; simp
                  have hs5 : w3.heap.size < w5.heap.size := by have := hb5.size; omega
                  have HG5 : Hid (Gr (w5.alloc (.cells #[.int .i64 y.op, .int .i64 y.s, .int .i64 y.a, .int .i64 y.b, .int .i64 y.c, .int .i64 y.p, .int .i64 y.q, .int .i64 y.w, .int .u64 y.lo, .int .u64 y.hi, .string y.nm] 36)) wa.heap.size (wa.heap.size + 2) wa.heap.size (wa.heap.size + 1) v R ns) := (HG.out.below hb5).alloc _
                  have hbq5 : Below (w3.heap.size + 1) (w3.alloc (.cells #[.int .i64 x.op, .int .i64 x.s, .int .i64 x.a, .int .i64 x.b, .int .i64 x.c, .int .i64 x.p, .int .i64 x.q, .int .i64 x.w, .int .u64 x.lo, .int .u64 x.hi, .string x.nm] 36)) w5 := hbq.trans (hb5.mono hs4)
                  clear hb5 HND HG hbq
                  go_wp2_with fail
                  exact ⟨⟨q + 1, by omega, by go_num, HG5.out, hbq5.alloc hs5 _⟩, by simp [intOf]; omega⟩
                · obtain rfl : q = p := by omega
                  have y2 : ¬ (q : Int) + 1 < (q : Int) + 1 := by omega
                  go_wp2_with fail
                  exact ⟨⟨q + 1, by omega, by go_num, HG.out, Below.trans (hbl3.alloc hsz3 _) (hbq.mono (by omega))⟩, by simp [intOf]; omega⟩
            · obtain rfl : p = N := by omega
              have y1 : ¬ (p : Int) + 1 ≤ (p : Int) := by omega
              have hR' := HR.out
              by_cases h1 : most < 1
              · have y3 : decide ((p : Int) ≤ 1) = true := by simp; unfold roomOf at hR'; omega
                clear hR' HR
                go_wp2_with fail
                refine Calls.mono HLE.out ?_
                rintro e wq ⟨rfl, hq⟩
                rw [hq]
                clear hq wq
                go_wp2_with fail
                refine Calls.mono HLE.out ?_
                rintro e wq ⟨rfl, hq⟩
                rw [hq]
                clear hq wq
                go_wp2_with fail
                go_ret
                exact ⟨rfl, hbl⟩
              · have y3 : decide ((p : Int) ≤ most) = true := by simp; unfold roomOf at hR'; omega
                clear hR' HR
                go_wp2_with fail
                refine Calls.mono HLE.out ?_
                rintro e wq ⟨rfl, hq⟩
                rw [hq]
                clear hq wq
                go_wp2_with fail
                refine Calls.mono HLE.out ?_
                rintro e wq ⟨rfl, hq⟩
                rw [hq]
                clear hq wq
                go_wp2_with fail
                go_ret
                exact ⟨rfl, hbl⟩
theorem walk_once {a : Option Addr} {c : Nat} {l : List Nd} (most : Int) (w : World) (hL : La w a l) (hok : ∀ n ∈ l, Ok n) (hmx : l.length ≤ maxLen) :
    Calls Try.prog 5 #[.int .i64 most, .slice a l.length c] w fun e w' => e = .returned (.bool true) ∧ Below w.heap.size w w' := by
  by_cases hlit : litB l = true
  · exact walk_once_of most w hL hok hlit
  · have HLI : Hid (∀ wx, Below w.heap.size w wx → Calls Try.prog 9 #[.slice a l.length c] wx fun e w' => e = .returned (.bool false) ∧ w' = wx) := fun wx hb => by
      have := light_a (c := c) (hL.below hb) hmx
      rw [Bool.not_eq_true] at hlit
      rw [hlit] at this; exact this
    clear hL hok
    go_enter Try.func5, Try.ntmps5
    go_wp2_with fail
    refine (known_any _).mono ?_
    rintro e wa ⟨rfl, hba⟩
    go_wp2_with fail
    refine (HLI.out _ hba).mono ?_
    rintro e wq ⟨rfl, hq⟩
    rw [hq]
    clear hq wq
    go_wp2_with fail
    go_ret
    exact ⟨rfl, hba⟩
end Go.Proofs.Ytjmbicaacplolaa
