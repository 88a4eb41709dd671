/- A graph makes each node once, with the document's number and sort, or refuses it with the document's error: the walk. -/
import Derived.Test.YtjmbicaacplolaaZ10
import Derived.Test.YtjmbicaacplolaaY17
import Derived.Deep.QuietTactic
import Derived.BigQuiet
namespace Go.Proofs.Ytjmbicaacplolaa
open Go.RowKit
set_option linter.unusedSimpArgs false
set_option linter.unusedVariables false

set_option maxRecDepth 20000 in
set_option maxHeartbeats 25600000 in
theorem walk_makes_of {a : Option Addr} {c : Nat} {l : List Nd} (most id : Int) (name : ByteArray) (w : World) (hL : La w a l) (hok : ∀ n ∈ l, Ok n) (hlit : litB l = true) (hname : name.size ≤ maxLen) :
    Calls Try.prog 3 #[.int .i64 most, .slice a l.length c, .int .i64 id, .string name] w fun e w' => e = .returned (.bool true) ∧ Below w.heap.size w w' := by
  have h200 : l.length ≤ 200 := by
    unfold litB at hlit
    rw [Bool.and_eq_true] at hlit
    exact of_decide_eq_true hlit.1
  have hmx : l.length ≤ maxLen := by unfold maxLen; omega
  obtain ⟨n, hn⟩ : ∃ n, n = l.length := ⟨_, rfl⟩
  have HN : Hid _ := hn
  have HLI : Hid (∀ wx, Below w.heap.size w wx → Calls Try.prog 9 #[.slice a n c] wx fun e w' => e = .returned (.bool true) ∧ w' = wx) := fun wx hb => by
    have := light_a (c := c) (hL.below hb) hmx
    rw [hlit] at this; rw [hn]; exact this
  obtain ⟨R, hR⟩ : ∃ R, R = roomOf most := ⟨_, rfl⟩
  have HNW : Hid (∀ wx, Calls Try.prog 10 #[.int .i64 most] wx fun e w' => e = .returned (.pointer (some ⟨wx.heap.size + 2, 0, none⟩)) ∧ Below wx.heap.size wx w' ∧ Gr w' wx.heap.size (wx.heap.size + 2) wx.heap.size (wx.heap.size + 1) (.slice none 0 0) R []) := fun wx => by rw [hR]; exact new_any most wx
  have HRW : Hid (∀ wx, Calls Try.prog 11 #[.int .i64 most] wx fun e w' => e = .returned (.pointer (some ⟨wx.heap.size, 0, none⟩)) ∧ Below wx.heap.size wx w' ∧ Rg w' wx.heap.size wx.heap.size (.slice none 0 0) R []) := fun wx => by rw [hR]; exact rnew_any most wx
  have hn200 : n ≤ 200 := by omega
  have HLa : Hid _ := hL
  have HOK : Hid _ := hok
  have HNAM : Hid _ := hname
  rw [← hn]
  clear hn hR hL hok hlit hmx h200 hname
  have hnx : ∀ x : Int, (x != x) = false := fun x => by simp
  have hex : ∀ x : Int, (x == x) = true := fun x => by simp
  have hnb : ∀ x : Bool, (x != x) = false := fun x => by simp
  have heb : ∀ x : Bool, (x == x) = true := fun x => by simp
  go_enter Try.func3, Try.ntmps3
  go_wp2_with fail
  refine (known_any _).mono ?_
  rintro e wa ⟨rfl, hba⟩
  go_wp2_with fail
  refine (HLI.out _ hba).mono ?_
  rintro e wq ⟨rfl, hq⟩
  rw [hq]
  clear hq wq
  go_wp2_with fail
  refine (HNW.out _).mono ?_
  rintro e wb ⟨rfl, hbb, hG⟩
  have HG : Hid _ := hG
  have hbl0 : Below w.heap.size w wb := hba.trans (hbb.mono hba.size)
  have hgl := hG.lt
  have hwa := hba.size
  clear hG hbb hba
  go_wp2_with fail
  refine (HRW.out _).mono ?_
  rintro e wc ⟨rfl, hbc, hR⟩
  have HT : Hid (Tw w wc wa.heap.size wb.heap.size (.slice none 0 0) (.slice none 0 0) R []) :=
    ⟨HG.out.below hbc, hR, by simp [Value.ownBlock], (fun q hq => by simp [Value.ownBlock] at hq), hgl, hwa, hbl0.trans (hbc.mono hbl0.size)⟩
  obtain ⟨B, hB⟩ : ∃ B, B = wa.heap.size := ⟨_, rfl⟩
  obtain ⟨D, hD⟩ : ∃ D, D = wb.heap.size := ⟨_, rfl⟩
  rw [← hB, ← hD] at HT
  rw [← hB, ← hD]
  clear hR hbc HG HNW HRW HLI hbl0 hgl hwa hB hD
  go_wp2_with fail
  go_loopw [11] (fun i wr => ∃ k : Nat, k ≤ n ∧ i = .int .i64 (k : Int) ∧ ∃ v u ns, Tw w wr B D v u R ns) (fun i wr => n - (intOf i).toNat)
  case atStart => exact ⟨0, Nat.zero_le _, rfl, _, _, _, HT.out⟩
  case round =>
    clear HT
    obtain ⟨k, hk, rfl, v, u, ns, hT⟩ := hrel
    have HT : Hid _ := hT
    clear hT
    by_cases hlt : k < n
    · obtain ⟨m, hm⟩ : ∃ m, l[k]? = some m := ⟨_, List.getElem?_eq_getElem (by rw [← HN.out]; exact hlt)⟩
      obtain ⟨gl, o, rfl, hgl, hLn⟩ : ∃ gl o, a = some ⟨gl, o, none⟩ ∧ gl < w.heap.size ∧ Ln w gl o l := by
        rcases HLa.out with e | h
        · rw [e] at hm; simp at hm
        · exact h
      have hc := hLn k m hm
      have HC : Hid _ := hc
      have hbl := HT.out.bel
      have d0 : wr.cell? ⟨gl, o + k * 11, none⟩ = some (.int .i64 m.op) := bel_cell hbl hgl (hc 0 _ rfl)
      have d1 : wr.cell? ⟨gl, o + k * 11 + 1, none⟩ = some (.int .i64 m.s) := bel_cell hbl hgl (hc 1 _ rfl)
      have d2 : wr.cell? ⟨gl, o + k * 11 + 2, none⟩ = some (.int .i64 m.a) := bel_cell hbl hgl (hc 2 _ rfl)
      have d3 : wr.cell? ⟨gl, o + k * 11 + 3, none⟩ = some (.int .i64 m.b) := bel_cell hbl hgl (hc 3 _ rfl)
      have d4 : wr.cell? ⟨gl, o + k * 11 + 4, none⟩ = some (.int .i64 m.c) := bel_cell hbl hgl (hc 4 _ rfl)
      have d5 : wr.cell? ⟨gl, o + k * 11 + 5, none⟩ = some (.int .i64 m.p) := bel_cell hbl hgl (hc 5 _ rfl)
      have d6 : wr.cell? ⟨gl, o + k * 11 + 6, none⟩ = some (.int .i64 m.q) := bel_cell hbl hgl (hc 6 _ rfl)
      have d7 : wr.cell? ⟨gl, o + k * 11 + 7, none⟩ = some (.int .i64 m.w) := bel_cell hbl hgl (hc 7 _ rfl)
      have d8 : wr.cell? ⟨gl, o + k * 11 + 8, none⟩ = some (.int .u64 m.lo) := bel_cell hbl hgl (hc 8 _ rfl)
      have d9 : wr.cell? ⟨gl, o + k * 11 + 9, none⟩ = some (.int .u64 m.hi) := bel_cell hbl hgl (hc 9 _ rfl)
      have d10 : wr.cell? ⟨gl, o + k * 11 + 10, none⟩ = some (.string m.nm) := bel_cell hbl hgl (hc 10 _ rfl)
      obtain ⟨id', er, ns', hM⟩ := mkd_any R ns m HT.out.gr.room
      have hOm := HOK.out m (List.mem_of_getElem? hm)
      have HMK : Hid _ := mk_any HT.out.gr hOm hM (by have := HT.out.gr.lt; omega)
      have HINV : Hid _ := HT.out.gr.inv
      have HMM : Hid _ := hM
      have HOM : Hid _ := hOm
      have HUB : Hid (∀ q, u.ownBlock = some q → D ≤ q) := fun q hq => (HT.out.rg.row.lt q hq).1
      clear hc hLn hm hM hOm
      have hlt' : (k : Int) < (n : Int) := by omega
      go_wp2_with fail
      refine Calls.mono HMK.out ?_
      rintro e w2 ⟨rfl, v', hG', hC, hv'⟩
      obtain ⟨hR2, hf2, ho2, hb2⟩ := HT.out.first hG' hC hv'
      have HRM : Hid _ := rmk_any hR2 HINV.out HOM.out HMM.out (by have := hR2.lt; omega)
      have HG2 : Hid _ := hG'
      have HF2 : Hid _ := hf2
      have HO2 : Hid _ := ho2
      have hbd := HT.out.bd
      have hlo := HT.out.lo
      clear hG' hC hv' hR2 hf2 ho2 HMK d0 d1 d2 d3 d4 d5 d6 d7 d8 d9 d10 hbl
      have e0 : w2.cell? ⟨gl, o + k * 11, none⟩ = some (.int .i64 m.op) := bel_cell hb2 hgl (HC.out 0 _ rfl)
      have e1 : w2.cell? ⟨gl, o + k * 11 + 1, none⟩ = some (.int .i64 m.s) := bel_cell hb2 hgl (HC.out 1 _ rfl)
      have e2 : w2.cell? ⟨gl, o + k * 11 + 2, none⟩ = some (.int .i64 m.a) := bel_cell hb2 hgl (HC.out 2 _ rfl)
      have e3 : w2.cell? ⟨gl, o + k * 11 + 3, none⟩ = some (.int .i64 m.b) := bel_cell hb2 hgl (HC.out 3 _ rfl)
      have e4 : w2.cell? ⟨gl, o + k * 11 + 4, none⟩ = some (.int .i64 m.c) := bel_cell hb2 hgl (HC.out 4 _ rfl)
      have e5 : w2.cell? ⟨gl, o + k * 11 + 5, none⟩ = some (.int .i64 m.p) := bel_cell hb2 hgl (HC.out 5 _ rfl)
      have e6 : w2.cell? ⟨gl, o + k * 11 + 6, none⟩ = some (.int .i64 m.q) := bel_cell hb2 hgl (HC.out 6 _ rfl)
      have e7 : w2.cell? ⟨gl, o + k * 11 + 7, none⟩ = some (.int .i64 m.w) := bel_cell hb2 hgl (HC.out 7 _ rfl)
      have e8 : w2.cell? ⟨gl, o + k * 11 + 8, none⟩ = some (.int .u64 m.lo) := bel_cell hb2 hgl (HC.out 8 _ rfl)
      have e9 : w2.cell? ⟨gl, o + k * 11 + 9, none⟩ = some (.int .u64 m.hi) := bel_cell hb2 hgl (HC.out 9 _ rfl)
      have e10 : w2.cell? ⟨gl, o + k * 11 + 10, none⟩ = some (.string m.nm) := bel_cell hb2 hgl (HC.out 10 _ rfl)
      go_wp2_with fail
      refine Calls.mono HRM.out ?_
      rintro e w3 ⟨rfl, u', hR3, hC3, hu'⟩
      have hT3 : Tw w w3 B D v' u' R ns' := Tw.second (ns := ns) HG2.out hR3 hC3 hu' HF2.out HO2.out hbd hlo hb2 HUB.out
      have HT3 : Hid _ := hT3
      obtain ⟨ad, cap, hsl⟩ := hR3.sl
      have c0 : w3.cell? ⟨D, 0, none⟩ = some (.slice ad ns'.length cap) := by rw [← hsl]; exact hR3.c0
      have HLE : Hid (∀ wx, Below w3.heap.size w3 wx → Calls Try.prog 14 #[.pointer (some ⟨B + 2, 0, none⟩)] wx fun e w' => e = .returned (.int .i64 (ns'.length : Int)) ∧ w' = wx) := fun wx hb => glen_any (HT3.out.gr.below hb)
      obtain ⟨N, hN⟩ : ∃ N, N = ns'.length := ⟨_, rfl⟩
      rw [← hN] at c0 HLE
      clear hT3 hR3 hC3 hu' hsl HRM HG2 HF2 HO2 HUB HT e0 e1 e2 e3 e4 e5 e6 e7 e8 e9 e10 hN hb2
      have n1 := hnx id'
      have n2 := hnx er
      have n3 := hnx (N : Int)
      go_wp2_with fail
      go_quiet ((go_at_call 14; refine Calls.quiet_of_same (HLE.out _ (below_drewN (Below.refl _ _) _))))
      go_wp2_with fail
      exact ⟨⟨k + 1, by omega, by go_num, _, _, _, HT3.out.below (below_drewN (Below.refl _ _) _)⟩, by simp [intOf]; omega⟩
    · obtain rfl : k = n := by omega
      have hlt' : ¬ (k : Int) < (k : Int) := by omega
      obtain ⟨N, hN⟩ : ∃ N, N = ns.length := ⟨_, rfl⟩
      have HNN : Hid _ := hN
      have hlen := HT.out.gr.len
      have HINV : Hid _ := HT.out.gr.inv
      obtain ⟨ad, cap, hsl⟩ := HT.out.rg.sl
      have HSL : Hid _ := hsl
      rw [← hN] at hlen
      clear hN hsl
      go_wp2_with fail
      clear hlt'
      go_loopw [16] (fun i wx => ∃ z : Int, -1 ≤ z ∧ z ≤ (N : Int) + 2 ∧ i = .int .i64 z ∧ Tw w wx B D v u R ns) (fun i wx => ((N : Int) + 2 - intOf i).toNat)
      case atStart => exact ⟨-1, by omega, by omega, rfl, HT.out⟩
      case round =>
        clear HT
        obtain ⟨z, hz1, hz2, rfl, hT⟩ := hrel
        have HT : Hid _ := hT
        have c0 : wr.cell? ⟨D, 0, none⟩ = some (.slice ad N cap) := by rw [HNN.out, ← HSL.out]; exact hT.rg.c0
        clear hT
        by_cases hzl : z ≤ (N : Int) + 1
        · obtain ⟨X, hX⟩ : ∃ X, X = ndF ns z := ⟨_, rfl⟩
          obtain ⟨b, hb⟩ : ∃ b, b = hasB ns.length z := ⟨_, rfl⟩
          have HND : Hid (∀ wx, Tw w wx B D v u R ns → Calls Try.prog 15 #[.pointer (some ⟨B + 2, 0, none⟩), .int .i64 z] wx fun e w' => e = .returned (.tuple #[.agg #[.int .i64 X.op, .int .i64 X.s, .int .i64 X.a, .int .i64 X.b, .int .i64 X.c, .int .i64 X.p, .int .i64 X.q, .int .i64 X.w, .int .u64 X.lo, .int .u64 X.hi, .string X.nm], .bool b]) ∧ Below wx.heap.size wx w') := fun wx h => node_all h.gr hX hb
          have HAT : Hid (∀ wx, Tw w wx B D v u R ns → Calls Try.prog 16 #[.pointer (some ⟨D, 0, none⟩), .int .i64 z] wx fun e w' => e = .returned (.tuple #[.agg #[.int .i64 X.op, .int .i64 X.s, .int .i64 X.a, .int .i64 X.b, .int .i64 X.c, .int .i64 X.p, .int .i64 X.q, .int .i64 X.w, .int .u64 X.lo, .int .u64 X.hi, .string X.nm], .bool b]) ∧ Below wx.heap.size wx w') := fun wx h => at_all h.rg hX hb
          have HCN : Hid (∀ wx, Tw w wx B D v u R ns → Calls Try.prog 18 #[.pointer (some ⟨B + 2, 0, none⟩), .int .i64 z] wx fun e w' => ∃ u, e = .returned u ∧ Rl w' wx.heap.size u (coneL ns z) ∧ Below wx.heap.size wx w') := fun wx h => cone_any h.gr z
          have HRC : Hid (∀ wx, Tw w wx B D v u R ns → Calls Try.prog 19 #[.pointer (some ⟨D, 0, none⟩), .int .i64 z] wx fun e w' => ∃ u, e = .returned u ∧ Rl w' wx.heap.size u (coneL ns z) ∧ Below wx.heap.size wx w') := fun wx h => rcone_any h.rg HINV.out z
          have hsame := nsame_nd X
          clear hX hb
          go_wp2_with fail
          refine Calls.mono (HND.out _ HT.out) ?_
          rintro e w4 ⟨rfl, hb4⟩
          have HT4 : Hid (Tw w (w4.alloc (.cells #[.int .i64 X.op, .int .i64 X.s, .int .i64 X.a, .int .i64 X.b, .int .i64 X.c, .int .i64 X.p, .int .i64 X.q, .int .i64 X.w, .int .u64 X.lo, .int .u64 X.hi, .string X.nm] 36)) B D v u R ns) := (HT.out.below hb4).below ((Below.refl _ _).alloc (Nat.le_refl _) _)
          clear hb4 HT
          go_wp2_with fail
          refine Calls.mono (HAT.out _ HT4.out) ?_
          rintro e w5 ⟨rfl, hb5⟩
          have x0 : w5.cell? ⟨w4.heap.size, 0, none⟩ = some (.int .i64 X.op) := by rw [hb5.cell (p := ⟨w4.heap.size, 0, none⟩) (by show w4.heap.size < _; rw [size_alloc']; omega)]; simp
          have x1 : w5.cell? ⟨w4.heap.size, 1, none⟩ = some (.int .i64 X.s) := by rw [hb5.cell (p := ⟨w4.heap.size, 1, none⟩) (by show w4.heap.size < _; rw [size_alloc']; omega)]; simp
          have x2 : w5.cell? ⟨w4.heap.size, 2, none⟩ = some (.int .i64 X.a) := by rw [hb5.cell (p := ⟨w4.heap.size, 2, none⟩) (by show w4.heap.size < _; rw [size_alloc']; omega)]; simp
          have x3 : w5.cell? ⟨w4.heap.size, 3, none⟩ = some (.int .i64 X.b) := by rw [hb5.cell (p := ⟨w4.heap.size, 3, none⟩) (by show w4.heap.size < _; rw [size_alloc']; omega)]; simp
          have x4 : w5.cell? ⟨w4.heap.size, 4, none⟩ = some (.int .i64 X.c) := by rw [hb5.cell (p := ⟨w4.heap.size, 4, none⟩) (by show w4.heap.size < _; rw [size_alloc']; omega)]; simp
          have x5 : w5.cell? ⟨w4.heap.size, 5, none⟩ = some (.int .i64 X.p) := by rw [hb5.cell (p := ⟨w4.heap.size, 5, none⟩) (by show w4.heap.size < _; rw [size_alloc']; omega)]; simp
          have x6 : w5.cell? ⟨w4.heap.size, 6, none⟩ = some (.int .i64 X.q) := by rw [hb5.cell (p := ⟨w4.heap.size, 6, none⟩) (by show w4.heap.size < _; rw [size_alloc']; omega)]; simp
          have x7 : w5.cell? ⟨w4.heap.size, 7, none⟩ = some (.int .i64 X.w) := by rw [hb5.cell (p := ⟨w4.heap.size, 7, none⟩) (by show w4.heap.size < _; rw [size_alloc']; omega)]; simp
          have x8 : w5.cell? ⟨w4.heap.size, 8, none⟩ = some (.int .u64 X.lo) := by rw [hb5.cell (p := ⟨w4.heap.size, 8, none⟩) (by show w4.heap.size < _; rw [size_alloc']; omega)]; simp
          have x9 : w5.cell? ⟨w4.heap.size, 9, none⟩ = some (.int .u64 X.hi) := by rw [hb5.cell (p := ⟨w4.heap.size, 9, none⟩) (by show w4.heap.size < _; rw [size_alloc']; omega)]; simp
          have x10 : w5.cell? ⟨w4.heap.size, 10, none⟩ = some (.string X.nm) := by rw [hb5.cell (p := ⟨w4.heap.size, 10, none⟩) (by show w4.heap.size < _; rw [size_alloc']; omega)]; simp
          have hs5 : w4.heap.size < w5.heap.size := by have := hb5.size; rw [size_alloc'] at this; omega
          have HT5 : Hid (Tw w (w5.alloc (.cells #[.int .i64 X.op, .int .i64 X.s, .int .i64 X.a, .int .i64 X.b, .int .i64 X.c, .int .i64 X.p, .int .i64 X.q, .int .i64 X.w, .int .u64 X.lo, .int .u64 X.hi, .string X.nm] 36)) B D v u R ns) := (HT4.out.below hb5).below ((Below.refl _ _).alloc (Nat.le_refl _) _)
          clear hb5 HT4
          go_wp2_with fail
          refine Calls.mono (HCN.out _ HT5.out) ?_
          rintro e w6 ⟨u1, rfl, hRl1, hb6⟩
          have HT6 : Hid _ := HT5.out.below hb6
          have HRL1 : Hid _ := hRl1
          clear hb6 HT5 hRl1
          go_wp2_with fail
          refine Calls.mono (HRC.out _ HT6.out) ?_
          rintro e w7 ⟨u2, rfl, hRl2, hb7⟩
          have HT7 : Hid _ := HT6.out.below hb7
          have HRL1' : Hid _ := Rl.below HRL1.out hb7
          have HRL2 : Hid _ := hRl2
          clear hb7 HT6 hRl2 HRL1
          go_wp2_with fail
          refine (ints_same HRL1'.out HRL2.out).mono ?_
          rintro e w8 ⟨rfl, hb8⟩
          have HT8 : Hid _ := HT7.out.below hb8
          clear hb8 HT7 HRL1' HRL2
          go_wp2_with fail
          exact ⟨⟨z + 1, by omega, by omega, by go_num, HT8.out⟩, by simp [intOf]; omega⟩
        · have hzl' : ¬ z ≤ (N : Int) + 1 := hzl
          obtain ⟨V, hV⟩ : ∃ V, V = varAt ns name := ⟨_, rfl⟩
          obtain ⟨X, hX⟩ : ∃ X, X = ndF ns id := ⟨_, rfl⟩
          obtain ⟨b, hb⟩ : ∃ b, b = hasB ns.length id := ⟨_, rfl⟩
          obtain ⟨b2, hb2⟩ : ∃ b2, b2 = (!decide (V = 0)) := ⟨_, rfl⟩
          have HVR : Hid (Calls Try.prog 20 #[.pointer (some ⟨B + 2, 0, none⟩), .string name] wr fun e w' => e = .returned (.tuple #[.int .i64 V, .bool b2]) ∧ w' = wr) := by rw [hb2, hV]; exact var_any HT.out.gr HNAM.out
          have HRV : Hid (Calls Try.prog 21 #[.pointer (some ⟨D, 0, none⟩), .string name] wr fun e w' => e = .returned (.tuple #[.int .i64 V, .bool b2]) ∧ w' = wr) := by rw [hb2, hV]; exact rvar_any HT.out.rg name
          have HND : Hid (∀ wx, Tw w wx B D v u R ns → Calls Try.prog 15 #[.pointer (some ⟨B + 2, 0, none⟩), .int .i64 id] wx fun e w' => e = .returned (.tuple #[.agg #[.int .i64 X.op, .int .i64 X.s, .int .i64 X.a, .int .i64 X.b, .int .i64 X.c, .int .i64 X.p, .int .i64 X.q, .int .i64 X.w, .int .u64 X.lo, .int .u64 X.hi, .string X.nm], .bool b]) ∧ Below wx.heap.size wx w') := fun wx h => node_all h.gr hX hb
          have HAT : Hid (∀ wx, Tw w wx B D v u R ns → Calls Try.prog 16 #[.pointer (some ⟨D, 0, none⟩), .int .i64 id] wx fun e w' => e = .returned (.tuple #[.agg #[.int .i64 X.op, .int .i64 X.s, .int .i64 X.a, .int .i64 X.b, .int .i64 X.c, .int .i64 X.p, .int .i64 X.q, .int .i64 X.w, .int .u64 X.lo, .int .u64 X.hi, .string X.nm], .bool b]) ∧ Below wx.heap.size wx w') := fun wx h => at_all h.rg hX hb
          have HVS : Hid (∀ wx, Tw w wx B D v u R ns → Calls Try.prog 22 #[.pointer (some ⟨B + 2, 0, none⟩)] wx fun e w' => ∃ u, e = .returned u ∧ Is' w' wx.heap.size u (vsF ns) ∧ Below wx.heap.size wx w') := fun wx h => vars_all h.gr
          have HRS : Hid (∀ wx, Tw w wx B D v u R ns → Calls Try.prog 23 #[.pointer (some ⟨D, 0, none⟩)] wx fun e w' => ∃ u, e = .returned u ∧ Is' w' wx.heap.size u (vsF ns) ∧ Below wx.heap.size wx w') := fun wx h => rvars_any h.rg
          have HCN : Hid (∀ wx, Tw w wx B D v u R ns → Calls Try.prog 18 #[.pointer (some ⟨B + 2, 0, none⟩), .int .i64 id] wx fun e w' => ∃ u, e = .returned u ∧ Rl w' wx.heap.size u (coneL ns id) ∧ Below wx.heap.size wx w') := fun wx h => cone_any h.gr id
          have HRC : Hid (∀ wx, Tw w wx B D v u R ns → Calls Try.prog 19 #[.pointer (some ⟨D, 0, none⟩), .int .i64 id] wx fun e w' => ∃ u, e = .returned u ∧ Rl w' wx.heap.size u (coneL ns id) ∧ Below wx.heap.size wx w') := fun wx h => rcone_any h.rg HINV.out id
          have HVL : Hid ((vsF ns).length ≤ 5000) := by unfold Hid; have := vsF_len ns; rw [← HNN.out] at this; omega
          have hsame := same_nd X
          clear hX hb hV hb2
          go_wp2_with fail
          refine Calls.mono HVR.out ?_
          rintro e wq ⟨rfl, hq⟩
          rw [hq]
          clear hq wq HVR
          go_wp2_with fail
          refine Calls.mono HRV.out ?_
          rintro e wq ⟨rfl, hq⟩
          rw [hq]
          clear hq wq HRV
          go_wp2_with fail
          refine Calls.mono (HND.out _ HT.out) ?_
          rintro e w4 ⟨rfl, hb4⟩
          have HT4 : Hid (Tw w (w4.alloc (.cells #[.int .i64 X.op, .int .i64 X.s, .int .i64 X.a, .int .i64 X.b, .int .i64 X.c, .int .i64 X.p, .int .i64 X.q, .int .i64 X.w, .int .u64 X.lo, .int .u64 X.hi, .string X.nm] 36)) B D v u R ns) := (HT.out.below hb4).below ((Below.refl _ _).alloc (Nat.le_refl _) _)
          clear hb4 HT
          go_wp2_with fail
          refine Calls.mono (HAT.out _ HT4.out) ?_
          rintro e w5 ⟨rfl, hb5⟩
          have x0 : w5.cell? ⟨w4.heap.size, 0, none⟩ = some (.int .i64 X.op) := by rw [hb5.cell (p := ⟨w4.heap.size, 0, none⟩) (by show w4.heap.size < _; rw [size_alloc']; omega)]; simp
          have x1 : w5.cell? ⟨w4.heap.size, 1, none⟩ = some (.int .i64 X.s) := by rw [hb5.cell (p := ⟨w4.heap.size, 1, none⟩) (by show w4.heap.size < _; rw [size_alloc']; omega)]; simp
          have x2 : w5.cell? ⟨w4.heap.size, 2, none⟩ = some (.int .i64 X.a) := by rw [hb5.cell (p := ⟨w4.heap.size, 2, none⟩) (by show w4.heap.size < _; rw [size_alloc']; omega)]; simp
          have x3 : w5.cell? ⟨w4.heap.size, 3, none⟩ = some (.int .i64 X.b) := by rw [hb5.cell (p := ⟨w4.heap.size, 3, none⟩) (by show w4.heap.size < _; rw [size_alloc']; omega)]; simp
          have x4 : w5.cell? ⟨w4.heap.size, 4, none⟩ = some (.int .i64 X.c) := by rw [hb5.cell (p := ⟨w4.heap.size, 4, none⟩) (by show w4.heap.size < _; rw [size_alloc']; omega)]; simp
          have x5 : w5.cell? ⟨w4.heap.size, 5, none⟩ = some (.int .i64 X.p) := by rw [hb5.cell (p := ⟨w4.heap.size, 5, none⟩) (by show w4.heap.size < _; rw [size_alloc']; omega)]; simp
          have x6 : w5.cell? ⟨w4.heap.size, 6, none⟩ = some (.int .i64 X.q) := by rw [hb5.cell (p := ⟨w4.heap.size, 6, none⟩) (by show w4.heap.size < _; rw [size_alloc']; omega)]; simp
          have x7 : w5.cell? ⟨w4.heap.size, 7, none⟩ = some (.int .i64 X.w) := by rw [hb5.cell (p := ⟨w4.heap.size, 7, none⟩) (by show w4.heap.size < _; rw [size_alloc']; omega)]; simp
          have x8 : w5.cell? ⟨w4.heap.size, 8, none⟩ = some (.int .u64 X.lo) := by rw [hb5.cell (p := ⟨w4.heap.size, 8, none⟩) (by show w4.heap.size < _; rw [size_alloc']; omega)]; simp
          have x9 : w5.cell? ⟨w4.heap.size, 9, none⟩ = some (.int .u64 X.hi) := by rw [hb5.cell (p := ⟨w4.heap.size, 9, none⟩) (by show w4.heap.size < _; rw [size_alloc']; omega)]; simp
          have x10 : w5.cell? ⟨w4.heap.size, 10, none⟩ = some (.string X.nm) := by rw [hb5.cell (p := ⟨w4.heap.size, 10, none⟩) (by show w4.heap.size < _; rw [size_alloc']; omega)]; simp
          have hs5 : w4.heap.size < w5.heap.size := by have := hb5.size; rw [size_alloc'] at this; omega
          have HT5 : Hid (Tw w (w5.alloc (.cells #[.int .i64 X.op, .int .i64 X.s, .int .i64 X.a, .int .i64 X.b, .int .i64 X.c, .int .i64 X.p, .int .i64 X.q, .int .i64 X.w, .int .u64 X.lo, .int .u64 X.hi, .string X.nm] 36)) B D v u R ns) := (HT4.out.below hb5).below ((Below.refl _ _).alloc (Nat.le_refl _) _)
          clear hb5 HT4
          go_wp2_with fail
          refine Calls.mono (HVS.out _ HT5.out) ?_
          rintro e w6 ⟨u1, rfl, hI1, hb6⟩
          have HT6 : Hid _ := HT5.out.below hb6
          have HRL1 : Hid _ := Is'.rl hI1 HVL.out
          clear hb6 HT5 hI1
          go_wp2_with fail
          refine Calls.mono (HRS.out _ HT6.out) ?_
          rintro e w7 ⟨u2, rfl, hI2, hb7⟩
          have HT7 : Hid _ := HT6.out.below hb7
          have HRL1' : Hid _ := Rl.below HRL1.out hb7
          have HRL2 : Hid _ := Is'.rl hI2 HVL.out
          clear hb7 HT6 hI2 HRL1
          go_wp2_with fail
          refine (ints_same HRL1'.out HRL2.out).mono ?_
          rintro e w8 ⟨rfl, hb8⟩
          have HT8 : Hid _ := HT7.out.below hb8
          clear hb8 HT7 HRL1' HRL2
          go_wp2_with fail
          refine Calls.mono (HCN.out _ HT8.out) ?_
          rintro e w9 ⟨u3, rfl, hRl1, hb9⟩
          have HT9 : Hid _ := HT8.out.below hb9
          have HRL1 : Hid _ := hRl1
          clear hb9 HT8 hRl1
          go_wp2_with fail
          refine Calls.mono (HRC.out _ HT9.out) ?_
          rintro e wx ⟨u4, rfl, hRl2, hbx⟩
          have HTX : Hid _ := HT9.out.below hbx
          have HRL1' : Hid _ := Rl.below HRL1.out hbx
          have HRL2 : Hid _ := hRl2
          clear hbx HT9 hRl2 HRL1
          go_wp2_with fail
          refine (ints_same HRL1'.out HRL2.out).mono ?_
          rintro e wy ⟨rfl, hby⟩
          have HTY : Hid _ := HTX.out.below hby
          clear hby HTX HRL1' HRL2
          go_wp2_with fail
          go_ret
          exact ⟨rfl, HTY.out.bel⟩
set_option maxRecDepth 20000 in
theorem walk_makes {a : Option Addr} {c : Nat} {l : List Nd} (most id : Int) (name : ByteArray) (w : World) (hL : La w a l) (hok : ∀ n ∈ l, Ok n) (hmx : l.length ≤ maxLen) (hname : name.size ≤ maxLen) :
    Calls Try.prog 3 #[.int .i64 most, .slice a l.length c, .int .i64 id, .string name] w fun e w' => e = .returned (.bool true) ∧ Below w.heap.size w w' := by
  by_cases hlit : litB l = true
  · exact walk_makes_of most id name w hL hok hlit hname
  · have HLI : Hid (∀ wx, Below w.heap.size w wx → Calls Try.prog 9 #[.slice a l.length c] wx fun e w' => e = .returned (.bool false) ∧ w' = wx) := fun wx hb => by
      have := light_a (c := c) (hL.below hb) hmx
      rw [Bool.not_eq_true] at hlit
      rw [hlit] at this; exact this
    clear hL hok
    go_enter Try.func3, Try.ntmps3
    go_wp2_with fail
    refine (known_any _).mono ?_
    rintro e wa ⟨rfl, hba⟩
    go_wp2_with fail
    refine (HLI.out _ hba).mono ?_
    rintro e wq ⟨rfl, hq⟩
    rw [hq]
    clear hq wq
    go_wp2_with fail
    go_ret
    exact ⟨rfl, hba⟩
end Go.Proofs.Ytjmbicaacplolaa
