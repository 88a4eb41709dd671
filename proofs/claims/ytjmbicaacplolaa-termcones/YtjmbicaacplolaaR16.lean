/- What a term is made of holds its operands' parts, and nothing else but itself, and rises: the walk. -/
import Derived.Test.YtjmbicaacplolaaY20
import Derived.Test.YtjmbicaacplolaaY17
import Derived.Deep.OwnRows
namespace Go.Proofs.Ytjmbicaacplolaa
open Go.RowKit
set_option linter.unusedSimpArgs false
set_option linter.unusedVariables false

theorem rows_at {l : List Int} {j : Nat} (hj : j < l.length) : l.take (j + 1) = l.take j ++ [l.getD j 0] := by
  rw [List.take_add_one, List.getElem?_eq_getElem hj, List.getD_eq_getElem?_getD, List.getElem?_eq_getElem hj]
  rfl
def wn (F : Nat → Bool) (q : Nat) : List Int := ((List.range' 1 q).filter F).map (fun j : Nat => (j : Int))
theorem wn_snoc (F : Nat → Bool) (q : Nat) : wn F (q + 1) = wn F q ++ (if F (q + 1) then [(q : Int) + 1] else []) := by
  unfold wn
  rw [List.range'_concat, List.filter_append, List.map_append, Nat.one_mul, Nat.add_comm 1 q]
  congr 1
  cases e : F (q + 1) <;> simp [e]
theorem wn_len (F : Nat → Bool) (q : Nat) : (wn F q).length ≤ q := by
  unfold wn
  rw [List.length_map]
  refine Nat.le_trans (List.length_filter_le _ _) ?_
  simp
/-- The marks: those of the first k operands' parts. -/
def Mk (ns : List Nd) (x : Nd) (k : Nat) (F : Nat → Bool) : Prop := ∀ j, F j = true ↔ ∃ q, q < k ∧ (j : Int) ∈ coneL ns (opn x q)

/-- The marks, and those of the first j of a list besides. -/
def Mj (F : Nat → Bool) (lst : List Int) (j : Nat) (F' : Nat → Bool) : Prop := ∀ z, F' z = true ↔ (F z = true ∨ (z : Int) ∈ lst.take j)
def Rs (wx : World) (aa : Option Addr) (b : Nat) (lst : List Int) : Prop := lst = [] ∨ ∃ r, aa = some ⟨r, 0, none⟩ ∧ b + 2 ≤ r ∧ Li wx r 0 lst
/-- What holds inside a round: the graph, the marks at block b, the operands behind it. -/
structure Cs (w4 wx : World) (B b : Nat) (v : Value) (ns : List Nd) (x : Nd) (F : Nat → Bool) : Prop where
  gr : Gr wx B (B + 2) B (B + 1) v 4096 ns
  row : wx.rowIs b 4 (ns.length + 1) (fun j => .bool (F j))
  kid : ∀ q, q < 3 → wx.cell? ⟨b + 1, q, none⟩ = some (.int .i64 (opn x q))
  size : b + 2 ≤ wx.heap.size
  bel : Below b w4 wx
theorem Cs.below {w4 wx wy : World} {B b : Nat} {v : Value} {ns : List Nd} {x : Nd} {F : Nat → Bool} (h : Cs w4 wx B b v ns x F) (hb : Below wx.heap.size wx wy) : Cs w4 wy B b v ns x F :=
  ⟨h.gr.below hb, h.row.of_block (hb.block b h.row.lt), fun q hq => by rw [hb.cell (p := ⟨b + 1, q, none⟩) (by show b + 1 < _; have := h.size; omega)]; exact h.kid q hq, Nat.le_trans h.size hb.size, h.bel.trans (hb.mono (by have := h.size; omega))⟩
theorem Cs.set {w4 wx : World} {B b y : Nat} {v : Value} {ns : List Nd} {x : Nd} {F : Nat → Bool} (h : Cs w4 wx B b v ns x F) (hB : B + 2 < b) (hv : ∀ q, v.ownBlock = some q → q < b) : Cs w4 (wx.setCell ⟨b, y, none⟩ (.bool true)) B b v ns x (fun j => F j || decide (j = y)) := by
  have hg : ∀ k, k ≠ b → (wx.setCell ⟨b, y, none⟩ (.bool true)).heap[k]? = wx.heap[k]? := fun k hk => Below.heap_setCell wx ⟨b, y, none⟩ _ k hk
  refine ⟨⟨(hg _ (by omega)).trans h.gr.hd, ownsRow_setCell_other h.gr.row (fun e => by have := hv _ e; exact Nat.lt_irrefl _ this) _, h.gr.ids.kept (hg _ (by omega)), h.gr.vars.kept (hg _ (by omega)), h.gr.bg, h.gr.bi, h.gr.bv, h.gr.ne, h.gr.most, h.gr.room, h.gr.inv⟩, (h.row.set y _).congr (fun j _ => ?_), fun q hq => ?_, ?_, h.bel.setCell (Nat.le_refl _) _⟩
  · by_cases e : j = y <;> simp [e]
  · rw [World.cell?_of_block (hg (b + 1) (by omega))]; exact h.kid q hq
  · have := h.size; simpa using this

theorem row_block {x y : World} {b : Nat} {e : TypeId} {sz : Nat} {v : Value} {n : Nat} {xs : List Value} (h : x.ownsRow b e sz v n xs) (hk : ∀ q, v.ownBlock = some q → y.heap[q]? = x.heap[q]?) : y.ownsRow b e sz v n xs := by
  refine ⟨h.1, ?_⟩
  rcases h.2 with hn | ⟨g, cap, cur, rfl, hb, hgg, rest⟩
  · exact .inl hn
  · exact .inr ⟨g, cap, cur, rfl, hb, by rw [hk g rfl]; exact hgg, rest⟩
theorem Cs.low {w4 wx wy : World} {B b : Nat} {v : Value} {ns : List Nd} {x : Nd} {F : Nat → Bool} (h : Cs w4 wx B b v ns x F) (hb : Below (b + 2) wx wy) (hB : B + 2 < b) (hv : ∀ q, v.ownBlock = some q → q < b) : Cs w4 wy B b v ns x F := by
  refine ⟨⟨(hb.block _ (by omega)).trans h.gr.hd, row_block h.gr.row (fun q hq => hb.block q (by have := hv q hq; omega)), h.gr.ids.kept (hb.block _ (by omega)), h.gr.vars.kept (hb.block _ (by omega)), h.gr.bg, h.gr.bi, h.gr.bv, h.gr.ne, h.gr.most, h.gr.room, h.gr.inv⟩, h.row.of_block (hb.block b (by omega)), fun q hq => ?_, Nat.le_trans h.size hb.size, h.bel.trans (hb.mono (by omega))⟩
  rw [hb.cell (p := ⟨b + 1, q, none⟩) (by show b + 1 < _; omega)]; exact h.kid q hq

set_option maxRecDepth 20000 in
set_option maxHeartbeats 25600000 in
theorem walk_cones_of {a : Option Addr} {c : Nat} {l : List Nd} (w : World) (hL : La w a l) (hok : ∀ n ∈ l, Ok n) (hlit : litB l = true) (h80 : l.length ≤ 80) :
    Calls Try.prog 6 #[.slice a l.length c] w fun e w' => e = .returned (.bool true) ∧ Below w.heap.size w w' := by
  have hmx : l.length ≤ maxLen := by unfold maxLen; omega
  obtain ⟨n, hn⟩ : ∃ n, n = l.length := ⟨_, rfl⟩
  have HN : Hid _ := hn
  have HLI : Hid (∀ wx, Below w.heap.size w wx → Calls Try.prog 9 #[.slice a n c] wx fun e w' => e = .returned (.bool true) ∧ w' = wx) := fun wx hb => by
    have := light_a (c := c) (hL.below hb) hmx
    rw [hlit] at this; rw [hn]; exact this
  have HNW : Hid (∀ wx, Calls Try.prog 10 #[.int .i64 4096] wx fun e w' => e = .returned (.pointer (some ⟨wx.heap.size + 2, 0, none⟩)) ∧ Below wx.heap.size wx w' ∧ Gr w' wx.heap.size (wx.heap.size + 2) wx.heap.size (wx.heap.size + 1) (.slice none 0 0) 4096 []) := fun wx => new_any 4096 wx
  have hn80 : n ≤ 80 := by omega
  have HLa : Hid _ := hL
  have HOK : Hid _ := hok
  rw [← hn]
  clear hn hL hok hlit hmx h80
  have h80' : ¬ (80 : Int) < (n : Int) := by omega
  go_enter Try.func6, Try.ntmps6
  go_wp2_with fail
  refine (known_any _).mono ?_
  rintro e wa ⟨rfl, hba⟩
  go_wp2_with fail
  refine (HLI.out _ hba).mono ?_
  rintro e wq ⟨rfl, hq⟩
  rw [hq]
  clear hq wq
  go_wp2_with fail
  refine (HNW.out _).mono ?_
  rintro e wb ⟨rfl, hbb, hG⟩
  have HG : Hid _ := hG
  have hbl0 : Below w.heap.size w wb := hba.trans (hbb.mono hba.size)
  have hwa : w.heap.size ≤ wa.heap.size := hba.size
  obtain ⟨B, hB⟩ : ∃ B, B = wa.heap.size := ⟨_, rfl⟩
  rw [← hB] at HG hwa ⊢
  clear hG hbb hba HNW HLI hB
  go_wp2_with fail
  go_loopw [4] (fun i wr => ∃ k : Nat, k ≤ n ∧ i = .int .i64 (k : Int) ∧ ∃ v ns, Gr wr B (B + 2) B (B + 1) v 4096 ns ∧ Below w.heap.size w wr) (fun i wr => n - (intOf i).toNat)
  case atStart => exact ⟨0, Nat.zero_le _, rfl, _, _, HG.out, hbl0⟩
  case round =>
    clear HG hbl0
    obtain ⟨k, hk, rfl, v, ns, hG, hbl⟩ := hrel
    have HG : Hid _ := hG
    clear hG
    by_cases hlt : k < n
    · obtain ⟨m, hm⟩ : ∃ m, l[k]? = some m := ⟨_, List.getElem?_eq_getElem (by rw [← HN.out]; exact hlt)⟩
      obtain ⟨gl, o, rfl, hgl, hLn⟩ : ∃ gl o, a = some ⟨gl, o, none⟩ ∧ gl < w.heap.size ∧ Ln w gl o l := by
        rcases HLa.out with e | h
        · rw [e] at hm; simp at hm
        · exact h
      have hc := hLn k m hm
      have d0 : wr.cell? ⟨gl, o + k * 11, none⟩ = some (.int .i64 m.op) := bel_cell hbl hgl (hc 0 _ rfl)
      have d1 : wr.cell? ⟨gl, o + k * 11 + 1, none⟩ = some (.int .i64 m.s) := bel_cell hbl hgl (hc 1 _ rfl)
      have d2 : wr.cell? ⟨gl, o + k * 11 + 2, none⟩ = some (.int .i64 m.a) := bel_cell hbl hgl (hc 2 _ rfl)
      have d3 : wr.cell? ⟨gl, o + k * 11 + 3, none⟩ = some (.int .i64 m.b) := bel_cell hbl hgl (hc 3 _ rfl)
      have d4 : wr.cell? ⟨gl, o + k * 11 + 4, none⟩ = some (.int .i64 m.c) := bel_cell hbl hgl (hc 4 _ rfl)
      have d5 : wr.cell? ⟨gl, o + k * 11 + 5, none⟩ = some (.int .i64 m.p) := bel_cell hbl hgl (hc 5 _ rfl)
      have d6 : wr.cell? ⟨gl, o + k * 11 + 6, none⟩ = some (.int .i64 m.q) := bel_cell hbl hgl (hc 6 _ rfl)
      have d7 : wr.cell? ⟨gl, o + k * 11 + 7, none⟩ = some (.int .i64 m.w) := bel_cell hbl hgl (hc 7 _ rfl)
      have d8 : wr.cell? ⟨gl, o + k * 11 + 8, none⟩ = some (.int .u64 m.lo) := bel_cell hbl hgl (hc 8 _ rfl)
      have d9 : wr.cell? ⟨gl, o + k * 11 + 9, none⟩ = some (.int .u64 m.hi) := bel_cell hbl hgl (hc 9 _ rfl)
      have d10 : wr.cell? ⟨gl, o + k * 11 + 10, none⟩ = some (.string m.nm) := bel_cell hbl hgl (hc 10 _ rfl)
      obtain ⟨id, er, ns', hM⟩ := mkd_any 4096 ns m HG.out.room
      have HMK : Hid _ := mk_any HG.out (HOK.out m (List.mem_of_getElem? hm)) hM (by have := HG.out.lt; omega)
      clear hc hLn hm hM
      have ek : wrap64 ((k : Int) + 1) = (k : Int) + 1 := by unfold wrap64; omega
      have hlt' : (k : Int) < (n : Int) := by omega
      go_wp2_with fail
      refine Calls.mono HMK.out ?_
      rintro e w2 ⟨rfl, v', hG', hC, hv'⟩
      have hbl2 : Below w.heap.size w w2 := hbl.trans ((hC.low HG.out (by have := HG.out.lt; omega)).mono hwa)
      have HG' : Hid _ := hG'
      clear hG' hC hv' HMK
      go_wp2_with fail
      exact ⟨⟨k + 1, by omega, by go_num, _, _, HG'.out, hbl2⟩, by simp [intOf]; omega⟩
    · obtain rfl : k = n := by omega
      have hlt' : ¬ (k : Int) < (k : Int) := by omega
      have HI : Hid _ := HG.out.inv
      have hlen := HG.out.len
      obtain ⟨N, hN⟩ : ∃ N, N = ns.length := ⟨_, rfl⟩
      have HNN : Hid _ := hN
      rw [← hN] at hlen
      clear hN
      obtain ⟨t4, h40, h41, h42, h43⟩ := info_any info4
      have hmk : ∀ wx, (Instr.makeSlice 56 (.int .i64 ((N : Int) + 1)) (.int .i64 ((N : Int) + 1))).run Try.prog wx = .ok (.slice (some ⟨wx.heap.size, 0, none⟩) (N + 1) (N + 1)) (wx.alloc (.cells (madeCells #[.bool false] (N + 1)) 4)) := fun wx =>
        run_make_row (P := Try.prog) 56 4 t4 (.bool false) under56 h40 h41 h42 rfl .i64 .i64 (N + 1) (by rw [h43]; omega) (by omega) wx
      obtain ⟨t0, ht0, hz0, hz1, hz2⟩ := info_parts info3
      have HI0 : Hid (Try.prog.info? 3 = some t0 ∧ t0.zero = some (.int .i64 0) ∧ t0.size = 1 ∧ t0.bytes = 8) := ⟨ht0, hz0, hz1, hz2⟩
      have HMKS : Hid _ := hmk
      clear ht0 hz0 hz1 hz2 h40 h41 h42 h43 hmk
      go_wp2_with fail
      clear hlt'
      go_loopw [5] (fun i wx => ∃ p : Nat, p ≤ N ∧ i = .int .i64 ((p : Int) + 1) ∧ Gr wx B (B + 2) B (B + 1) v 4096 ns ∧ Below w.heap.size w wx) (fun i wx => N + 1 - (intOf i).toNat)
      case atStart => exact ⟨0, Nat.zero_le _, rfl, HG.out, hbl⟩
      case round =>
        clear HG hbl
        obtain ⟨p, hp, rfl, hG, hbl⟩ := hrel
        have HG : Hid _ := hG
        have HLE : Hid (∀ wx, Gr wx B (B + 2) B (B + 1) v 4096 ns → Calls Try.prog 14 #[.pointer (some ⟨B + 2, 0, none⟩)] wx fun e w' => e = .returned (.int .i64 (N : Int)) ∧ w' = wx) := fun wx hg => by rw [HNN.out]; exact glen_any hg
        clear hG
        by_cases hlt : p < N
        · obtain ⟨x, hx⟩ : ∃ x, ns[p]? = some x := ⟨_, List.getElem?_eq_getElem (by rw [← HNN.out]; exact hlt)⟩
          have HX : Hid _ := hx
          have HND : Hid _ := node_yes HG.out hx
          have y1 : (p : Int) + 1 ≤ (N : Int) := by omega
          have ep : wrap64 ((p : Int) + 1 + 1) = (p : Int) + 1 + 1 := by unfold wrap64; omega
          have hmk := HMKS.out
          clear hx
          go_wp2_with fail
          refine Calls.mono (HLE.out _ HG.out) ?_
          rintro e wq ⟨rfl, hq⟩
          rw [hq]
          clear hq wq
          go_wp2_with fail
          refine Calls.mono HND.out ?_
          rintro e w3 ⟨rfl, hb3⟩
          have hG3 := HG.out.below hb3
          have hbl3 : Below w.heap.size w w3 := hbl.trans (hb3.mono hbl.size)
          have HG3 : Hid (Gr (w3.alloc (.cells #[.int .i64 x.op, .int .i64 x.s, .int .i64 x.a, .int .i64 x.b, .int .i64 x.c, .int .i64 x.p, .int .i64 x.q, .int .i64 x.w, .int .u64 x.lo, .int .u64 x.hi, .string x.nm] 36)) B (B + 2) B (B + 1) v 4096 ns) := hG3.alloc _
          have HLV : Hid (∀ q, v.ownBlock = some q → q < w3.heap.size) := fun q hq => (hG3.row.lt q hq).2
          have hB3 : B + 2 < w3.heap.size := hG3.lt
          clear HG hb3 HND hbl hG3
          go_wp2_with fail
          refine Calls.mono (HLE.out _ HG3.out) ?_
          rintro e wq ⟨rfl, hq⟩
          rw [hq]
          clear hq wq
          obtain ⟨b, hb⟩ : ∃ b, b = w3.heap.size + 1 := ⟨_, rfl⟩
          go_wp2_with fail
          clear hmk
          obtain ⟨w4, hw4⟩ : ∃ w4, w4 = ((w3.alloc (.cells #[.int .i64 x.op, .int .i64 x.s, .int .i64 x.a, .int .i64 x.b, .int .i64 x.c, .int .i64 x.p, .int .i64 x.q, .int .i64 x.w, .int .u64 x.lo, .int .u64 x.hi, .string x.nm] 36)).alloc (.cells (madeCells #[.bool false] (N + 1)) 4)).alloc (.cells #[.int .i64 x.a, .int .i64 x.b, .int .i64 x.c] 3) := ⟨_, rfl⟩
          have HC0 : Hid (Cs w4 w4 B b v ns x (fun _ => false)) := by
            subst hw4
            subst hb
            refine ⟨(HG3.out.alloc _).alloc _, ?_, fun q hq => ?_, by simp, Below.refl _ _⟩
            · have h := (World.rowIs_made (w3.alloc (.cells #[.int .i64 x.op, .int .i64 x.s, .int .i64 x.a, .int .i64 x.b, .int .i64 x.c, .int .i64 x.p, .int .i64 x.q, .int .i64 x.w, .int .u64 x.lo, .int .u64 x.hi, .string x.nm] 36)) (.bool false) (N + 1) 4).alloc (.cells #[.int .i64 x.a, .int .i64 x.b, .int .i64 x.c] 3)
              rw [size_alloc', HNN.out] at h
              rw [HNN.out]
              exact h
            · have h := heap_alloc_new ((w3.alloc (.cells #[.int .i64 x.op, .int .i64 x.s, .int .i64 x.a, .int .i64 x.b, .int .i64 x.c, .int .i64 x.p, .int .i64 x.q, .int .i64 x.w, .int .u64 x.lo, .int .u64 x.hi, .string x.nm] 36)).alloc (.cells (madeCells #[.bool false] (N + 1)) 4)) (.cells #[.int .i64 x.a, .int .i64 x.b, .int .i64 x.c] 3)
              rw [size_alloc', size_alloc'] at h
              have : q = 0 ∨ q = 1 ∨ q = 2 := by omega
              rcases this with rfl | rfl | rfl
              · exact cell_of h 0 rfl
              · exact cell_of h 1 rfl
              · exact cell_of h 2 rfl
          have hw43 : Below w.heap.size w w4 := by
            rw [hw4]
            exact ((hbl3.alloc hbl3.size _).alloc (by have := hbl3.size; simp; omega) _).alloc (by have := hbl3.size; simp; omega) _
          have hwb : w.heap.size ≤ b := by have := hbl3.size; omega
          have hB4 : B + 2 < b := by omega
          have HLV4 : Hid (∀ q, v.ownBlock = some q → q < b) := fun q hq => by have := HLV.out q hq; omega
          rw [← hw4, ← hb]
          clear hw4 hb HLV hbl3 hB3 HG3
          go_loopw [10] (fun i wx => ∃ k3 : Nat, k3 ≤ 3 ∧ i = .int .i64 (k3 : Int) ∧ ∃ F, Mk ns x k3 F ∧ Cs w4 wx B b v ns x F) (fun i wx => 3 - (intOf i).toNat)
          case atStart => exact ⟨0, Nat.zero_le _, rfl, (fun _ => false), (fun j => ⟨fun h => by simp at h, fun ⟨q, hq, _⟩ => by omega⟩), HC0.out⟩
          case round =>
            clear HC0
            obtain ⟨k3, hk3, rfl, F, hF, hC⟩ := hrel
            have HF : Hid _ := hF
            have HC : Hid _ := hC
            have hbs := hC.size
            clear hF hC
            by_cases hlt3 : k3 < 3
            · have ck := HC.out.kid k3 hlt3
              obtain ⟨y, hy⟩ : ∃ y, y = opn x k3 := ⟨_, rfl⟩
              rw [← hy] at ck
              have HCN : Hid _ := cone_any HC.out.gr y
              obtain ⟨lst, hlst⟩ : ∃ lst, lst = coneL ns y := ⟨_, rfl⟩
              rw [← hlst] at HCN
              have HLIN : Hid (∀ z ∈ lst, 1 ≤ z ∧ z ≤ (N : Int)) := fun z hz => by
                rw [hlst] at hz
                have := cone_in HI.out hz
                rw [HNN.out]; omega
              have HMK3 : Hid (∀ F' : Nat → Bool, (∀ z, F' z = true ↔ (F z = true ∨ (z : Int) ∈ lst)) → Mk ns x (k3 + 1) F') := fun F' h z => by
                rw [h z, HF.out z, hlst, hy]
                constructor
                · rintro (⟨q, hq, hz⟩ | hz)
                  · exact ⟨q, by omega, hz⟩
                  · exact ⟨k3, by omega, hz⟩
                · rintro ⟨q, hq, hz⟩
                  by_cases e : q = k3
                  · subst e; exact Or.inr hz
                  · exact Or.inl ⟨q, by omega, hz⟩
              have hk3' : (k3 : Int) < 3 := by omega
              have e3 : wrap64 ((k3 : Int) + 1) = (k3 : Int) + 1 := by unfold wrap64; omega
              clear hy hlst
              go_wp2_with fail
              refine Calls.mono HCN.out ?_
              rintro e w5 ⟨u, rfl, hRl, hb5⟩
              obtain ⟨aa, cc, rfl, hcc, h5, hor⟩ := hRl
              have HC5 : Hid _ := HC.out.below hb5
              have HOR : Hid (Rs w5 aa b lst) := by
                rcases hor with h | ⟨r, h1, h2, h3⟩
                · exact Or.inl h
                · exact Or.inr ⟨r, h1, by omega, h3⟩
              obtain ⟨M, hM⟩ : ∃ M, M = lst.length := ⟨_, rfl⟩
              have HM : Hid _ := hM
              rw [← hM] at h5 ⊢
              clear hor hcc hb5 HCN HC hM hbs ck
              go_wp2_with fail
              go_loopw [12] (fun i wx => ∃ j : Nat, j ≤ M ∧ i = .int .i64 (j : Int) ∧ ∃ F', Mj F lst j F' ∧ Cs w4 wx B b v ns x F' ∧ Rs wx aa b lst) (fun i wx => M - (intOf i).toNat)
              case atStart => exact ⟨0, Nat.zero_le _, rfl, F, (fun z => by simp), HC5.out, HOR.out⟩
              case round =>
                clear HC5 HOR
                obtain ⟨j, hj, rfl, F', hF', hC', hor⟩ := hrel
                have HF' : Hid _ := hF'
                have HC' : Hid _ := hC'
                clear hF' hC'
                by_cases hltj : j < M
                · obtain ⟨r, rfl, hbr, hLi⟩ : ∃ r, aa = some ⟨r, 0, none⟩ ∧ b + 2 ≤ r ∧ Li wr r 0 lst := by
                    rcases hor with h | h
                    · rw [HM.out, h] at hltj; exact absurd hltj (Nat.not_lt_zero _)
                    · exact h
                  have hjl : j < lst.length := by rw [← HM.out]; exact hltj
                  have hzm : lst.getD j 0 ∈ lst := by rw [List.getD_eq_getElem?_getD, List.getElem?_eq_getElem hjl]; exact List.getElem_mem hjl
                  have hzr := HLIN.out _ hzm
                  obtain ⟨Z, hZ⟩ : ∃ Z : Nat, lst.getD j 0 = (Z : Int) := ⟨(lst.getD j 0).toNat, by omega⟩
                  have cz : wr.cell? ⟨r, j, none⟩ = some (.int .i64 (Z : Int)) := by have := hLi j hjl; rw [Nat.zero_add, hZ] at this; exact this
                  have zb : (Z : Int) ≤ (N : Int) := by omega
                  have zb3 : Z ≤ N := by omega
                  have jb : (j : Int) < (M : Int) := by omega
                  have kc : wr.cell? ⟨b, Z, none⟩ = some (.bool (F' Z)) := HC'.out.row.cell (by rw [← HNN.out]; omega)
                  have kf : wr.frozen? ⟨b, Z, none⟩ = false := HC'.out.row.frozen Z
                  have HC2 : Hid _ := HC'.out.set (y := Z) hB4 HLV4.out
                  have HL2 : Hid (Rs (wr.setCell ⟨b, Z, none⟩ (.bool true)) (some ⟨r, 0, none⟩) b lst) := Or.inr ⟨r, rfl, hbr, fun i hi => by
                    rw [World.cell?_of_block (Below.heap_setCell wr ⟨b, Z, none⟩ _ r (by show r ≠ b; omega))]; exact hLi i hi⟩
                  have HF2 : Hid (Mj F lst (j + 1) (fun z => F' z || decide (z = Z))) := fun z => by
                    show (F' z || decide (z = Z)) = true ↔ _
                    rw [rows_at hjl, hZ, Bool.or_eq_true, HF'.out z, decide_eq_true_eq, List.mem_append, List.mem_singleton, or_assoc]
                    constructor
                    · rintro (h | h | h)
                      · exact Or.inl h
                      · exact Or.inr (Or.inl h)
                      · exact Or.inr (Or.inr (by rw [h]))
                    · rintro (h | h | h)
                      · exact Or.inl h
                      · exact Or.inr (Or.inl h)
                      · exact Or.inr (Or.inr (by omega))
                  have ej : wrap64 ((j : Int) + 1) = (j : Int) + 1 := by unfold wrap64; omega
                  clear hLi hzm hzr hZ hor HC' HF' hjl ej
                  go_wp2_with fail
                  exact ⟨⟨j + 1, by omega, by go_num, _, HF2.out, HC2.out, HL2.out⟩, by simp [intOf]; omega⟩
                · obtain rfl : j = M := by omega
                  have jb : ¬ (j : Int) < (j : Int) := by omega
                  have HMK4 : Hid _ := HMK3.out F' (fun z => by rw [HF'.out z, HM.out, List.take_length])
                  clear hor
                  go_wp2_with fail
                  exact ⟨⟨k3 + 1, by omega, by go_num, _, HMK4.out, HC'.out⟩, by simp [intOf]; omega⟩
            · obtain rfl : k3 = 3 := by omega
              rw [show ((3 : Nat) : Int) = 3 from rfl]
              have kc : wr.cell? ⟨b, p + 1, none⟩ = some (.bool (F (p + 1))) := HC.out.row.cell (by rw [← HNN.out]; omega)
              have kf : wr.frozen? ⟨b, p + 1, none⟩ = false := HC.out.row.frozen (p + 1)
              have pb : (p : Int) + 1 < (N : Int) + 1 := by omega
              have hC2 := HC.out.set (y := p + 1) hB4 HLV4.out
              obtain ⟨F2, hF2⟩ : ∃ F2 : Nat → Bool, F2 = fun j => F j || decide (j = p + 1) := ⟨_, rfl⟩
              rw [← hF2] at hC2
              have HC2 : Hid _ := hC2
              have HW : Hid (coneL ns ((p : Int) + 1) = wn F2 N) := by
                unfold Hid
                have hpn : hasB ns.length ((p : Int) + 1) = true := by rw [← HNN.out]; simp [hasB]; omega
                unfold coneL
                rw [if_pos hpn, show ((p : Int) + 1).toNat = p + 1 by omega, HNN.out]
                refine cone_want HI.out HX.out F2 (fun j h1 h2 => ?_)
                rw [hF2]
                show (F j || decide (j = p + 1)) = true ↔ _
                rw [Bool.or_eq_true, decide_eq_true_eq, HF.out j]
                constructor
                · rintro (⟨q, hq, hz⟩ | h)
                  · have : q = 0 ∨ q = 1 ∨ q = 2 := by omega
                    rcases this with rfl | rfl | rfl
                    · exact Or.inr (Or.inl hz)
                    · exact Or.inr (Or.inr (Or.inl hz))
                    · exact Or.inr (Or.inr (Or.inr hz))
                  · exact Or.inl h
                · rintro (h | h | h | h)
                  · exact Or.inr h
                  · exact Or.inl ⟨0, by omega, h⟩
                  · exact Or.inl ⟨1, by omega, h⟩
                  · exact Or.inl ⟨2, by omega, h⟩
              clear hC2 hF2 HC HF hbs
              go_wp2_with fail
              clear kc kf
              go_loopw [13, 14] (fun vv i wx => ∃ q : Nat, q ≤ N ∧ i = .int .i64 ((q : Int) + 1) ∧ Is' wx (b + 2) vv (wn F2 q) ∧ Cs w4 wx B b v ns x F2) (fun vv i wx => N + 1 - (intOf i).toNat)
              case atStart => exact ⟨0, Nat.zero_le _, rfl, World.ownsRow_nil _ _ _ _, HC2.out⟩
              case round =>
                clear HC2
                obtain ⟨q, hq, rfl, hIs, hC⟩ := hrel
                have HC : Hid _ := hC
                have HIS : Hid _ := hIs
                have hbs := hC.size
                have HLE2 : Hid _ := HLE.out _ hC.gr
                clear hC hIs
                by_cases hltq : q < N
                · have qb : (q : Int) + 1 ≤ (N : Int) := by omega
                  have qb2 : (q : Int) + 1 < (N : Int) + 1 := by omega
                  have eq : wrap64 ((q : Int) + 1 + 1) = (q : Int) + 1 + 1 := by unfold wrap64; omega
                  have kc : wr.cell? ⟨b, q + 1, none⟩ = some (.bool (F2 (q + 1))) := HC.out.row.cell (by rw [← HNN.out]; omega)
                  have HSN : Hid _ := wn_snoc F2 q
                  have HLN : Hid ((wn F2 q).length ≤ 5000) := by unfold Hid; have := wn_len F2 q; omega
                  by_cases hf2 : F2 (q + 1) = true
                  · rw [hf2] at kc
                    have HS2 : Hid (wn F2 (q + 1) = wn F2 q ++ [(q : Int) + 1]) := by unfold Hid; rw [HSN.out, if_pos hf2]
                    clear hf2 HSN
                    go_wp2_with fail
                    refine Calls.mono HLE2.out ?_
                    rintro e wq ⟨rfl, hq⟩
                    rw [hq]
                    clear hq wq
                    go_wp2_with (at_builtin; refine wpList_append_own_at _ rfl _ _ 45 rfl (b + 2) 3 t0 (.int .i64 0) 1 8 under45 HI0.out.1 HI0.out.2.1 HI0.out.2.2.1 HI0.out.2.2.2 rfl (by decide) _ _ _ rfl (row_kept HIS.out (fun _ hq => heap_alloc_old _ _ hq)) ⟨wr.heap.size, 0, none⟩ 1 1 [.int .i64 ((q : Int) + 1)] rfl rfl (cell_one_new _ _ _) (ones [(q : Int) + 1]) (by have := HLN.out; unfold maxLen; omega) (by have := HLN.out; omega) (by rw [size_alloc']; omega) ?_; intro v1 w1 hown hgrow hnil hat)
                    have hlow : Below (b + 2) wr w1 := low_grown (Below.refl _ _) hbs hgrow (fun q hq => (HIS.out.lt q hq).1)
                    have HC1 : Hid _ := HC.out.low hlow hB4 HLV4.out
                    have HI1 : Hid (Is' w1 (b + 2) v1 (wn F2 (q + 1))) := by
                      unfold Hid Is'
                      rw [HS2.out, List.map_append, List.length_append]
                      exact hown
                    clear hown hgrow hnil hat HIS hlow HC kc
                    go_wp2_with fail
                    exact ⟨⟨q + 1, by omega, by go_num, HI1.out, HC1.out⟩, by simp [intOf]; omega⟩
                  · rw [Bool.not_eq_true] at hf2
                    rw [hf2] at kc
                    have HS2 : Hid (wn F2 (q + 1) = wn F2 q) := by unfold Hid; rw [HSN.out, hf2, if_neg (by decide), List.append_nil]
                    clear hf2 HSN
                    go_wp2_with fail
                    refine Calls.mono HLE2.out ?_
                    rintro e wq ⟨rfl, hq⟩
                    rw [hq]
                    clear hq wq
                    go_wp2_with fail
                    exact ⟨⟨q + 1, by omega, by go_num, by rw [HS2.out]; exact HIS.out, HC.out⟩, by simp [intOf]; omega⟩
                · obtain rfl : q = N := by omega
                  have qb : ¬ (q : Int) + 1 ≤ (q : Int) := by omega
                  have HCN : Hid _ := cone_any HC.out.gr ((p : Int) + 1)
                  rw [HW.out] at HCN
                  have HLN : Hid ((wn F2 q).length ≤ 5000) := by unfold Hid; have := wn_len F2 q; omega
                  have hbx := HC.out.bel
                  have HGX : Hid _ := HC.out.gr
                  go_wp2_with fail
                  refine Calls.mono HLE2.out ?_
                  rintro e wq ⟨rfl, hq⟩
                  rw [hq]
                  clear hq wq HLE2
                  go_wp2_with fail
                  refine Calls.mono HCN.out ?_
                  rintro e w6 ⟨u, rfl, hRl, hb6⟩
                  have HRL : Hid _ := hRl
                  have HR2 : Hid _ := (Is'.rl HIS.out HLN.out).below hb6
                  clear hRl HCN
                  go_wp2_with fail
                  refine (ints_same HRL.out HR2.out).mono ?_
                  rintro e w7 ⟨rfl, hb7⟩
                  have HG7 : Hid _ := (HGX.out.below hb6).below hb7
                  have hb67 : Below b w4 w7 := (hbx.trans (hb6.mono (by omega))).trans (hb7.mono (by have := hb6.size; omega))
                  clear hb6 hb7 hbx HRL HR2 HIS HC HGX
                  go_wp2_with fail
                  exact ⟨⟨p + 1, by omega, by go_num, HG7.out, hw43.trans (hb67.mono hwb)⟩, by simp [intOf]; omega⟩
        · obtain rfl : p = N := by omega
          have y1 : ¬ (p : Int) + 1 ≤ (p : Int) := by omega
          have HCZ : Hid _ := cone_no HG.out (i := 0) (by simp [hasB])
          have HCN : Hid (∀ wx, Gr wx B (B + 2) B (B + 1) v 4096 ns → Calls Try.prog 18 #[.pointer (some ⟨B + 2, 0, none⟩), .int .i64 ((p : Int) + 1)] wx fun e w' => e = .returned (.slice none 0 0) ∧ Below wx.heap.size wx w') := fun wx hg => cone_no hg (by rw [← HNN.out]; simp [hasB]; omega)
          have ep : wrap64 ((p : Int) + 1) = (p : Int) + 1 := by unfold wrap64; omega
          go_wp2_with fail
          refine Calls.mono (HLE.out _ HG.out) ?_
          rintro e wq ⟨rfl, hq⟩
          rw [hq]
          clear hq wq
          go_wp2_with fail
          refine Calls.mono HCZ.out ?_
          rintro e w5 ⟨rfl, hb5⟩
          have HG5 : Hid _ := HG.out.below hb5
          have hbl5 : Below w.heap.size w w5 := hbl.trans (hb5.mono hbl.size)
          clear HCZ hb5
          go_wp2_with fail
          refine Calls.mono (HLE.out _ HG5.out) ?_
          rintro e wq ⟨rfl, hq⟩
          rw [hq]
          clear hq wq
          go_wp2_with fail
          refine Calls.mono (HCN.out _ HG5.out) ?_
          rintro e w6 ⟨rfl, hb6⟩
          have hbl6 : Below w.heap.size w w6 := hbl5.trans (hb6.mono hbl5.size)
          clear hb6
          go_wp2_with fail
          go_ret
          exact ⟨rfl, hbl6⟩
theorem walk_cones {a : Option Addr} {c : Nat} {l : List Nd} (w : World) (hL : La w a l) (hok : ∀ n ∈ l, Ok n) (hmx : l.length ≤ maxLen) :
    Calls Try.prog 6 #[.slice a l.length c] w fun e w' => e = .returned (.bool true) ∧ Below w.heap.size w w' := by
  by_cases hlit : litB l = true
  · by_cases h80 : l.length ≤ 80
    · exact walk_cones_of w hL hok hlit h80
    · have HLI : Hid (∀ wx, Below w.heap.size w wx → Calls Try.prog 9 #[.slice a l.length c] wx fun e w' => e = .returned (.bool true) ∧ w' = wx) := fun wx hb => by
        have := light_a (c := c) (hL.below hb) hmx
        rw [hlit] at this; exact this
      have h80' : (80 : Int) < (l.length : Int) := by omega
      clear hL hok
      go_enter Try.func6, Try.ntmps6
      go_wp2_with fail
      refine (known_any _).mono ?_
      rintro e wa ⟨rfl, hba⟩
      go_wp2_with fail
      refine (HLI.out _ hba).mono ?_
      rintro e wq ⟨rfl, hq⟩
      rw [hq]
      clear hq wq
      go_wp2_with fail
      go_ret
      exact ⟨rfl, hba⟩
  · have HLI : Hid (∀ wx, Below w.heap.size w wx → Calls Try.prog 9 #[.slice a l.length c] wx fun e w' => e = .returned (.bool false) ∧ w' = wx) := fun wx hb => by
      have := light_a (c := c) (hL.below hb) hmx
      rw [Bool.not_eq_true] at hlit
      rw [hlit] at this; exact this
    clear hL hok
    go_enter Try.func6, Try.ntmps6
    go_wp2_with fail
    refine (known_any _).mono ?_
    rintro e wa ⟨rfl, hba⟩
    go_wp2_with fail
    refine (HLI.out _ hba).mono ?_
    rintro e wq ⟨rfl, hq⟩
    rw [hq]
    clear hq wq
    go_wp2_with fail
    go_ret
    exact ⟨rfl, hba⟩
end Go.Proofs.Ytjmbicaacplolaa
