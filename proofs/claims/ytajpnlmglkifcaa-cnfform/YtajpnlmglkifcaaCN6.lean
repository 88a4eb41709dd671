/- Contracts (clauses): which literals are untold: the walk. -/
import Derived.Test.YtajpnlmglkifcaaCN5
import Derived.Deep.QuietTactic
namespace Go.Proofs.Ytajpnlmglkifcaa
open Go.RowKit
set_option linter.unusedSimpArgs false
set_option linter.unusedVariables false

def nats (l : List Nat) : List Int := l.map fun x : Nat => (x : Int)
theorem nats_len (l : List Nat) : (nats l).length = l.length := List.length_map ..
theorem nats_app (a b : List Nat) : nats (a ++ b) = nats a ++ nats b := List.map_append
/-- What the walk has in memory. -/
structure UW (w wr : World) (u6 u7 : Value) (found todo : List Nat) : Prop where
  f : Is' wr w.heap.size u6 (nats found)
  t : Is' wr w.heap.size u7 (nats todo)
  ap : ∀ b, u6.ownBlock = some b → u7.ownBlock ≠ some b
  m : Im wr w.heap.size (polF found)
  bel : Below w.heap.size w wr
theorem UW.sep {w wr : World} {u6 u7 : Value} {found todo : List Nat} (h : UW w wr u6 u7 found todo) : u6.ownBlock ≠ some w.heap.size ∧ u7.ownBlock ≠ some w.heap.size := by
  obtain ⟨es, cl, h1, -⟩ := h.m
  have key : ∀ (u : Value) (l : List Nat), Is' wr w.heap.size u (nats l) → u.ownBlock ≠ some w.heap.size := fun u l hu e => by
    rcases hu.2 with ⟨rfl, -⟩ | ⟨g, cap, cur, rfl, -, hg, -⟩
    · cases e
    · have : g = w.heap.size := by injection e
      rw [this, h1] at hg; cases hg
  exact ⟨key _ _ h.f, key _ _ h.t⟩
/-- The last one is taken off. -/
theorem Is'.pop {wr : World} {B r cap : Nat} {td : List Nat} {x : Nat} (h : Is' wr B (.slice (some ⟨r, 0, none⟩) (td.length + 1) cap) (nats (td ++ [x]))) : Is' wr B (.slice (some ⟨r, 0, none⟩) td.length cap) (nats td) := by
  have hl : (nats (td ++ [x])).length = td.length + 1 := by rw [nats_len]; simp
  have hl2 := nats_len td
  unfold Is' at h ⊢
  rw [hl] at h
  rw [hl2]
  rcases h.2 with ⟨e, -⟩ | ⟨g, c, cur, e, hb, hg, hc, hm, hs, ht⟩
  · cases e
  · injection e with e1 e2 e3
    injection e1 with e1
    injection e1 with e1
    subst e1 e3
    refine ⟨by simp [hl2], Or.inr ⟨r, cap, cur, rfl, hb, hg, by omega, hm, hs, ?_⟩⟩
    have h4 := congrArg (List.take td.length) ht
    have h5 : List.take td.length (List.map (Value.int .i64) (nats td)) = List.map (Value.int .i64) (nats td) := List.take_of_length_le (by simp [hl2])
    rw [List.take_take, nats_app, List.map_append, List.take_append_of_le_length (by simp [hl2]), h5, show min td.length ((td.length + 1) * 1) = td.length * 1 by omega] at h4
    exact h4
theorem Is'.last {wr : World} {B : Nat} {u : Value} {td : List Nat} {x : Nat} (h : Is' wr B u (nats (td ++ [x]))) : ∃ r cap, u = .slice (some ⟨r, 0, none⟩) (td.length + 1) cap ∧ td.length + 1 ≤ cap ∧ B ≤ r ∧ wr.cell? ⟨r, td.length, none⟩ = some (.int .i64 (x : Int)) := by
  have hl : (nats (td ++ [x])).length = td.length + 1 := by rw [nats_len]; simp
  obtain ⟨r, cap, e, hb, hc, hL⟩ := h.li (by intro q; rw [q] at hl; simp at hl)
  rw [hl] at e hc
  refine ⟨r, cap, e, hc, hb, ?_⟩
  have h1 := hL td.length (by omega)
  rw [Nat.zero_add] at h1
  have e2 : (nats (td ++ [x])).getD td.length 0 = (x : Int) := by
    unfold nats
    rw [List.getD_eq_getElem?_getD, List.map_append, List.getElem?_append_right (by simp)]
    simp
  rw [e2] at h1
  exact h1
def slen : Value → Nat
  | .slice _ n _ => n
  | _ => 0
theorem Is'.slen {wr : World} {B : Nat} {u : Value} {l : List Nat} (h : Is' wr B u (nats l)) : Go.Proofs.Ytajpnlmglkifcaa.slen u = l.length := by
  rcases h.2 with ⟨rfl, h0⟩ | ⟨g, cap, cur, rfl, -⟩
  · rw [nats_len] at h0; rw [h0]; rfl
  · show (nats l).length = _; exact nats_len l
/-- What untold tells. -/
structure UO (ks : List Kd) (T : List Nat) (l : Nat) (L : List Nat) : Prop where
  up : L.Pairwise (· < ·)
  new : ∀ x ∈ L, x ∉ T
  vf : ∀ x ∈ L, x / 2 < ks.length
  cl : ∀ x ∈ L, ∀ y ∈ kidsL ks x, y ∈ T ∨ y ∈ L
  st : l ∈ T ∨ l ∈ L
  fr : ∀ x ∈ L, x = l ∨ ∃ y ∈ L, x ∈ kidsL ks y
theorem cell_two_new (w : World) (x y : Value) (t : TypeId) : ∀ j u, [x, y][j]? = some u → (w.alloc (.cells #[x, y] t)).cell? ((⟨w.heap.size, 0, none⟩ : Addr).add j) = some u := by
  intro j u hj
  have h : (w.alloc (.cells #[x, y] t)).heap[w.heap.size]? = some (.cells #[x, y] t (0, 0)) := heap_alloc_new w _
  match j, hj with
  | 0, hj => exact cell_of h 0 (by simpa using hj)
  | 1, hj => exact cell_of h 1 (by simpa using hj)
theorem heap_drewN (w : World) : ∀ n, (w.drewN n).heap = w.heap := fun n => by simp [World.drewN]
theorem polF_nil : polF [] = fun _ => none := by
  funext x
  unfold polF
  rw [if_pos (Or.inr (by unfold pvT; simp))]
theorem sort_nats (l : List Nat) : (nats l).mergeSort (fun x y => decide (x ≤ y)) = nats (l.mergeSort fun x y => decide (x ≤ y)) := by
  unfold nats
  rw [List.map_mergeSort]
  intro a _ b _
  simp
theorem uo_of {ks : List Kd} {T : List Nat} {l : Nat} {found : List Nat} (h : UI ks T l found []) : UO ks T l (found.mergeSort fun x y => decide (x ≤ y)) := by
  have hp := List.mergeSort_perm found (fun x y => decide (x ≤ y))
  have hm : ∀ x, x ∈ found.mergeSort (fun x y => decide (x ≤ y)) ↔ x ∈ found := fun x => hp.mem_iff
  have hs := List.pairwise_mergeSort (le := fun x y : Nat => decide (x ≤ y)) (fun a b c h1 h2 => by simp at h1 h2 ⊢; omega) (fun a b => by simp; omega) found
  have hn : (found.mergeSort fun x y => decide (x ≤ y)).Nodup := hp.nodup_iff.2 h.nd
  refine ⟨?_, fun x hx => h.new x ((hm x).1 hx), fun x hx => h.vf x ((hm x).1 hx), fun x hx y hy => ?_, ?_, fun x hx => ?_⟩
  · exact (hs.and hn).imp fun h => by
      have h1 := h.1
      have h2 := h.2
      simp at h1
      omega
  · rcases h.cl x ((hm x).1 hx) y hy with h1 | h1 | h1
    · exact Or.inl h1
    · exact Or.inr ((hm y).2 h1)
    · cases h1
  · rcases h.st with h1 | h1 | h1
    · exact Or.inl h1
    · exact Or.inr ((hm l).2 h1)
    · cases h1
  · rcases h.fr x (Or.inl ((hm x).1 hx)) with h1 | ⟨y, hy, h1⟩
    · exact Or.inl h1
    · exact Or.inr ⟨y, (hm y).2 hy, h1⟩
set_option maxRecDepth 20000 in
set_option maxHeartbeats 25600000 in
theorem untold_of {w : World} {F : Nat → Prop} {e g mo mv mp l : Nat} {ks : List Kd} {vars : Int} {V : Int → Option Int} {T : List Nat}
    (hE : En w e g vars mv mp V (polF T)) (hG : Gr w F g mo ks) (hll : l / 2 < ks.length) (hks : ks.length ≤ 40000)
    (hS : ∀ (wx : World) (u : Value) (L : List Int), Is' wx w.heap.size u L → L.length ≤ 100000 → Calls Try.prog 54 #[u] wx fun ev w' => ev = .returned (.tuple #[]) ∧ Is' w' w.heap.size u (L.mergeSort fun x y => decide (x ≤ y)) ∧ Below w.heap.size wx w') :
    Calls Try.prog 39 #[.pointer (some ⟨e, 0, none⟩), .int .i64 (l : Int)] w fun ev w' => ∃ u L, ev = .returned u ∧ Is' w' w.heap.size u (nats L) ∧ UO ks T l L ∧ Below w.heap.size w w' := by
  obtain ⟨ti, ht0, hz0, hz1, hz2⟩ := info_any infoInt
  have HI : Hid _ := (⟨ht0, hz0, hz1, hz2⟩ : Try.prog.info? 3 = some ti ∧ ti.zero = _ ∧ ti.size = 1 ∧ ti.bytes = 8)
  have HV : Hid _ := hG.inv
  have HE : Hid (En w e g vars mv mp V (polF T)) := hE
  have HKD : Hid (∀ wx, Below w.heap.size w wx → ∀ n : Nat, Calls Try.prog 52 #[.pointer (some ⟨g, 0, none⟩), .int .i64 (n : Int)] wx fun ev w' => ev = .returned (.tuple #[.int .i64 (kidF ks n).1, .int .i64 (kidF ks n).2.1, .bool (kidF ks n).2.2]) ∧ Below wx.heap.size wx w') := fun wx hb n => kids_any (hG.below hb) n
  have HS : Hid _ := hS
  have hel := hE.lt
  have hmm := @run_makeMap Try.prog
  clear hE hG ht0 hz0 hz1 hz2 hS
  go_enter Try.func39, Try.ntmps39
  go_wp2_with fail
  go_loopw [6, 7] (fun u6 u7 wr => ∃ found todo, Hid (UW w wr u6 u7 found todo) ∧ Hid (UI ks T l found todo)) (fun u6 u7 wr => 3 * (2 * ks.length - slen u6) + slen u7)
  case atStart =>
    refine ⟨[], [l], ⟨World.ownsRow_nil _ _ _ _, ⟨rfl, Or.inr ⟨w.heap.size + 1, 1, #[.int .i64 (l : Int)], rfl, by omega, ?_, by simp [nats], by decide, rfl, rfl⟩⟩, (fun b e => by cases e), ?_, ?_⟩, UI.start hll⟩
    · have h1 := heap_alloc_new (w.alloc (.map #[] 0)) (.cells #[.int .i64 (l : Int)] 3)
      rw [size_alloc'] at h1
      exact h1
    · rw [polF_nil]
      exact (Im.made w).kept (heap_alloc_old _ _ (by rw [size_alloc']; omega))
    · go_grown
  case round =>
    obtain ⟨found, todo, hW, hU⟩ := hrel
    have hfl : found.length ≤ 80000 := by
      have := nodup_len (2 * ks.length) found hU.out.nd (fun x hx => by have := hU.out.vf x hx; omega)
      omega
    have htl := hU.out.sz
    rcases List.eq_nil_or_concat todo with e0 | ⟨td, x, e0⟩
    · subst e0
      obtain ⟨a7, c7, rfl⟩ : ∃ a c, u7 = .slice a 0 c := by
        rcases hW.out.t.2 with ⟨e, -⟩ | ⟨_, _, _, e, -⟩
        · exact ⟨_, _, e⟩
        · exact ⟨_, _, e⟩
      have HSO : Hid _ := HS.out wr u6 (nats found) hW.out.f (by rw [nats_len]; omega)
      have HB : Hid _ := hW.out.bel
      go_wp2_with fail
      refine Calls.mono HSO.out ?_
      rintro ev w2 ⟨rfl, hI2, hb2⟩
      have HI2 : Hid _ := hI2
      have HB2 : Hid _ := HB.out.trans hb2
      clear hI2 hb2
      go_wp2_with fail
      go_ret
      refine ⟨u6, found.mergeSort (fun x y => decide (x ≤ y)), rfl, ?_, uo_of hU.out, HB2.out⟩
      have h1 := HI2.out
      rw [sort_nats] at h1
      exact h1
    · rw [List.concat_eq_append] at e0
      subst e0
      obtain ⟨r, cap, rfl, hcp, hBr, hxc⟩ := hW.out.t.last
      obtain ⟨N, hN⟩ : ∃ N, N = td.length := ⟨_, rfl⟩
      have HN : Hid _ := hN
      rw [← hN] at hcp hxc
      rw [← hN]
      have hxv := hU.out.vt x (by simp)
      have hx6 : x < 80000 := by omega
      have HND : Hid (∀ wx, Calls Try.prog 38 #[.int .i64 (x : Int)] wx fun e w' => e = .returned (.int .i64 ((x / 2 : Nat) : Int)) ∧ w' = wx) := fun wx => cnode_any x wx
      have HPO : Hid (∀ wx, Calls Try.prog 51 #[.int .i64 (x : Int)] wx fun e w' => e = .returned (.int .i64 (pol x)) ∧ w' = wx) := fun wx => polarity_any (by omega) wx
      have HTU : Hid (∀ wx, Calls Try.prog 53 #[.int .i64 (x : Int)] wx fun e w' => e = .returned (.int .i64 ((x % 2 : Nat) : Int)) ∧ w' = wx) := fun wx => turned_any (by omega) wx
      have hk6 : w64 ((x / 2 : Nat) : Int) := by unfold w64; omega
      have hEr := HE.out.below hW.out.bel
      have c3 : wr.cell? ⟨e, 3, none⟩ = some (.map (some mp)) := cell_of hEr.hd 3 rfl
      have HL1 : Hid (∀ y, y.heap = wr.heap → (Instr.lookup 62 (.map (some mp)) (.int .i64 ((x / 2 : Nat) : Int)) false).run Try.prog y = .ok (.int .i64 (pvT T (x / 2))) y) := fun y hy => by
        have h1 := (hEr.ps.kept (w' := y) (by rw [hy])).look hk6
        rw [polF_get] at h1; exact h1
      have HL2 : Hid (∀ y, y.heap = wr.heap → (Instr.lookup 62 (.map (some w.heap.size)) (.int .i64 ((x / 2 : Nat) : Int)) false).run Try.prog y = .ok (.int .i64 (pvT found (x / 2))) y) := fun y hy => by
        have h1 := (hW.out.m.kept (w' := y) (by rw [hy])).look hk6
        rw [polF_get] at h1; exact h1
      have hsn := seen_iff T found x
      obtain ⟨bx, hbx⟩ : ∃ b, b = decide (x ∈ T ∨ x ∈ found) := ⟨_, rfl⟩
      have HBX : Hid _ := hbx
      rw [← hbx] at hsn
      obtain ⟨q, hq⟩ : ∃ q, q = x / 2 := ⟨_, rfl⟩
      have HQ : Hid _ := hq
      obtain ⟨pa, hpa⟩ : ∃ y, y = pvT T (x / 2) := ⟨_, rfl⟩
      obtain ⟨pb, hpb⟩ : ∃ y, y = pvT found (x / 2) := ⟨_, rfl⟩
      obtain ⟨pc, hpc⟩ : ∃ y, y = pol x := ⟨_, rfl⟩
      have HPB : Hid _ := hpb
      have HPC : Hid _ := hpc
      rw [← hpa, ← hpb, ← hpc] at hsn
      rw [← hpa, ← hq] at HL1
      rw [← hpb, ← hq] at HL2
      rw [← hpc] at HPO
      rw [← hq] at HND
      have hNI : (N : Int) < (N : Int) + 1 := by omega
      have hNc : (N : Int) ≤ (cap : Int) := by omega
      have hN0 : (0 : Int) ≤ (N : Int) := by omega
      have hN1 : (0 : Int) < (N : Int) + 1 := by omega
      have hNb : N ≤ 80001 := by rw [hN]; simp at htl; omega
      have hels : e < wr.heap.size := hEr.lt
      clear hq hpa hpb hpc hbx hN hEr hk6 htl
      go_wp2_with fail
      refine (HND.out _).mono ?_
      rintro ev wz ⟨rfl, hz⟩
      rw [hz]
      clear hz wz
      go_wp2_with fail
      have q1 : ∀ k, (Instr.lookup 62 (.map (some mp)) (.int .i64 (q : Int)) false).run Try.prog (wr.drewN k) = .ok (.int .i64 pa) (wr.drewN k) := fun k => HL1.out _ (heap_drewN wr k)
      have q2 : ∀ k, (Instr.lookup 62 (.map (some w.heap.size)) (.int .i64 (q : Int)) false).run Try.prog (wr.drewN k) = .ok (.int .i64 pb) (wr.drewN k) := fun k => HL2.out _ (heap_drewN wr k)
      go_quiet ((go_at_call 51; refine Calls.quiet_of_same (HPO.out _)))
      clear q1 q2
      obtain ⟨wd, hwd⟩ : ∃ wd, wd = wr.drewN nq := ⟨_, rfl⟩
      rw [← hwd]
      have HWD : Hid (wd.heap = wr.heap ∧ Below wr.heap.size wr wd) := by
        unfold Hid
        rw [hwd]
        exact ⟨heap_drewN wr nq, below_drewN (Below.refl _ _) _⟩
      clear hwd
      have HSD : Hid (wd.heap.size = wr.heap.size) := by unfold Hid; rw [HWD.out.1]
      have HW2 : Hid (UW w wd u6 (.slice (some ⟨r, 0, none⟩) N cap) found td) := by
        have hp : Is' wr w.heap.size (.slice (some ⟨r, 0, none⟩) N cap) (nats td) := by
          have h1 := hW.out.t
          rw [HN.out]
          exact h1.pop
        exact ⟨row_kept hW.out.f HWD.out.2.block, row_kept hp HWD.out.2.block, fun b e => hW.out.ap b e, hW.out.m.kept (by rw [HWD.out.1]), hW.out.bel.trans (HWD.out.2.mono hW.out.bel.size)⟩
      cases bx
      · have hxT : x ∉ T ∧ x ∉ found := by
          have := HBX.out.symm
          simp only [decide_eq_false_iff_not, not_or] at this
          exact this
        have hk6 : w64 (q : Int) := by unfold w64; have := HQ.out; omega
        have hlk9 : (Instr.lookup 62 (.map (some w.heap.size)) (.int .i64 (q : Int)) false).run Try.prog wd.drew = .ok (.int .i64 pb) wd.drew := HL2.out wd.drew HWD.out.1
        obtain ⟨w9, hup9, hI9, hgr9, hsz9⟩ := (HW2.out.m.kept (w' := wd.drew) rfl).put hk6 (bits .or .i64 pb pc)
        rw [HQ.out, HPB.out, HPC.out, polF_snoc hxT.2] at hI9
        have HI9 : Hid (Im w9 w.heap.size (polF (found ++ [x]))) := hI9
        have HG9 : Hid (wd.drew.grownBy w9 (some w.heap.size)) := hgr9
        have hs9 : w9.heap.size ≤ wr.heap.size := by rw [hsz9]; exact Nat.le_of_eq HSD.out
        have hs9' : wr.heap.size ≤ w9.heap.size := by rw [hsz9]; exact Nat.le_of_eq HSD.out.symm
        obtain ⟨hp6, hp7⟩ := HW2.out.sep
        have HF9 : Hid (Is' w9 w.heap.size u6 (nats found)) := row_own HW2.out.f (fun b hb => hgr9.block b (HW2.out.f.lt b hb).2 (fun e => hp6 (hb.trans e)))
        have HT9 : Hid (Is' w9 w.heap.size (.slice (some ⟨r, 0, none⟩) N cap) (nats td)) := row_own HW2.out.t (fun b hb => hgr9.block b (HW2.out.t.lt b hb).2 (fun e => hp7 (hb.trans e)))
        have HB9 : Hid (Below w.heap.size w w9) := HW2.out.bel.trans ⟨hgr9.os, hgr9.tape, hgr9.output, hgr9.size, fun b hb => hgr9.block b (by show b < wd.heap.size; have := HW2.out.bel.size; have := HSD.out; omega) (fun e => by injection e with e; omega)⟩
        have hsw : w.heap.size < wr.heap.size := by have := hW.out.m.lt; omega
        obtain ⟨k, hk⟩ : ∃ k, ks[x / 2]? = some k := ⟨_, List.getElem?_eq_getElem hxv⟩
        have HKL : Hid (kidsL ks x = if isK k then [xr k.1 (x % 2), xr k.2 (x % 2)] else []) := by unfold Hid kidsL; rw [hk]
        have hkr : k.1 < 1000000 ∧ k.2 < 1000000 := by
          by_cases hz : k = (0, 0)
          · rw [hz]; exact ⟨by decide, by decide⟩
          · have := HV.out.kid (x / 2) k hk hz; omega
        have HKK : Hid (∀ wx, Below w.heap.size w wx → Calls Try.prog 52 #[.pointer (some ⟨g, 0, none⟩), .int .i64 (q : Int)] wx fun ev w' => ev = .returned (.tuple #[.int .i64 (k.1 : Int), .int .i64 (k.2 : Int), .bool (isK k)]) ∧ Below wx.heap.size wx w') := fun wx hb => by
          have h1 := HKD.out wx hb q
          rw [show kidF ks (q : Int) = ((k.1 : Int), (k.2 : Int), isK k) by unfold kidF; rw [if_pos (by omega), Int.toNat_natCast, HQ.out, hk]] at h1
          exact h1
        have HUT : Hid (UI ks T l (found ++ [x]) (td ++ kidsL ks x)) := hU.out.take HV.out hxT.1 hxT.2
        have hfl2 : found.length + 1 ≤ 2 * ks.length := by
          have := nodup_len (2 * ks.length) (found ++ [x]) HUT.out.nd (fun y hy => by have := HUT.out.vf y hy; omega)
          simpa using this
        obtain ⟨k1, k2⟩ := k
        dsimp only at HKL hkr HKK
        have hz1 := xor_xr hkr.1 (t := x % 2) (by omega)
        have hz2 := xor_xr hkr.2 (t := x % 2) (by omega)
        obtain ⟨x1, hx1⟩ : ∃ y, y = xr k1 (x % 2) := ⟨_, rfl⟩
        obtain ⟨x2, hx2⟩ : ∃ y, y = xr k2 (x % 2) := ⟨_, rfl⟩
        obtain ⟨z, hz⟩ : ∃ y, y = x % 2 := ⟨_, rfl⟩
        rw [← hx1, ← hz] at hz1
        rw [← hx2, ← hz] at hz2
        rw [← hx1, ← hx2] at HKL
        rw [← hz] at HTU
        obtain ⟨ik, hik⟩ : ∃ y, y = isK (k1, k2) := ⟨_, rfl⟩
        rw [← hik] at HKL HKK
        have HP6 : Hid (u6.ownBlock ≠ some w.heap.size) := hp6
        have HP7 : Hid (r ≠ w.heap.size) := fun e => hp7 (by rw [← e]; rfl)
        have HAP : Hid (∀ b, u6.ownBlock = some b → b ≠ r) := fun b hb e => hW.out.ap b hb (by rw [e]; rfl)
        have hrl : r < wr.heap.size := (hW.out.t.lt r rfl).2
        clear hI9 hgr9 hsz9 hk hxT hp6 hp7 hx1 hx2 hz hik hk6 hxc hcp
        go_wp2_with fail
        go_region_with ((go_at_call 51; refine (HPO.out _).mono ?_; rintro ev wq ⟨rfl, hq⟩; rw [hq]; clear hq wq))
        all_goals
          clear hlk9 hup9
          go_wp2_with (at_builtin; refine wpList_append_own_at _ rfl _ _ 31 rfl w.heap.size 3 ti (.int .i64 0) 1 8 underInts HI.out.1 HI.out.2.1 HI.out.2.2.1 HI.out.2.2.2 rfl (by decide) u6 _ _ rfl (row_kept HF9.out (fun _ hq => heap_alloc_old _ _ hq)) ⟨w9.heap.size, 0, none⟩ 1 1 [.int .i64 (x : Int)] rfl rfl (cell_one_new _ _ _) (ones [(x : Int)]) (by rw [nats_len]; unfold maxLen; omega) (by rw [nats_len]; omega) (by rw [size_alloc']; omega) ?_; intro v10 w10 hown hgrow hnil hat; have hb10 : Below w.heap.size w w10 := low_grown HB9.out (by omega) hgrow (fun q hq => (HF9.out.lt q hq).1); have d0 : w10.cell? ⟨e, 0, none⟩ = some (.pointer (some ⟨g, 0, none⟩)) := bel_cell hb10 hel (cell_of HE.out.hd 0 rfl))
          have HF10 : Hid (Is' w10 w.heap.size v10 (nats (found ++ [x]))) := by
            unfold Hid Is'
            rw [nats_app, List.length_append, List.map_append]; exact hown
          have HT10 : Hid (Is' w10 w.heap.size (.slice (some ⟨r, 0, none⟩) N cap) (nats td)) := row_own HT9.out (fun b hb => by
            have hbr : b = r := by injection hb with hb; exact hb.symm
            subst hbr
            exact (hgrow.block b (by rw [size_alloc']; omega) (fun e => HAP.out b e.symm rfl)).trans (heap_alloc_old _ _ (by omega)))
          have HM10 : Hid (Im w10 w.heap.size (polF (found ++ [x]))) := Im.kept HI9.out ((hgrow.block _ (by rw [size_alloc']; omega) (fun e => HP6.out e.symm)).trans (heap_alloc_old _ _ (by omega)))
          have HA10 : Hid (∀ b, v10.ownBlock = some b → b ≠ r) := fun b hb e => by
            rcases hat with h1 | h1
            · exact HAP.out b (h1.symm.trans hb) e
            · rw [hb, size_alloc'] at h1
              injection h1 with h1
              omega
          have HB10 : Hid _ := hb10
          have hs10 : wr.heap.size < w10.heap.size := by have := hgrow.size; rw [size_alloc'] at this; omega
          clear hown hgrow hnil hat hb10
          refine (HKK.out _ HB10.out).mono ?_
          rintro ev w11 ⟨rfl, hb11⟩
          have HF11 : Hid (Is' w11 w.heap.size v10 (nats (found ++ [x]))) := row_kept HF10.out hb11.block
          have HT11 : Hid (Is' w11 w.heap.size (.slice (some ⟨r, 0, none⟩) N cap) (nats td)) := row_kept HT10.out hb11.block
          have HM11 : Hid (Im w11 w.heap.size (polF (found ++ [x]))) := Im.kept HM10.out (hb11.block _ (by omega))
          have HB11 : Hid (Below w.heap.size w w11) := HB10.out.trans (hb11.mono HB10.out.size)
          have hs11 : wr.heap.size < w11.heap.size := by have := hb11.size; omega
          have hsl : slen v10 = found.length + 1 := by rw [HF11.out.slen]; simp
          have HSL : Hid _ := hsl
          have hsl6 : slen u6 = found.length := hW.out.f.slen
          have HSL6 : Hid _ := hsl6
          clear hb11 d0 hsl hsl6
          cases ik
          · have HU2 : Hid (UI ks T l (found ++ [x]) td) := by
              have h1 := HUT.out
              rw [HKL.out] at h1
              unfold Hid
              simpa using h1
            go_wp2_with fail
            exact ⟨⟨found ++ [x], td, ⟨HF11.out, HT11.out, fun b hb e => HA10.out b hb (by injection e with e; exact e.symm), HM11.out, HB11.out⟩, HU2.out⟩, by rw [HSL.out, HSL6.out]; simp [slen]; omega⟩
          · have HU2 : Hid (UI ks T l (found ++ [x]) (td ++ [x1, x2])) := by
              have h1 := HUT.out
              rw [HKL.out] at h1
              unfold Hid
              simpa using h1
            go_wp2_with fail
            refine (HTU.out _).mono ?_
            rintro ev wt ⟨rfl, ht⟩
            rw [ht]
            clear ht wt
            go_wp2_with fail
            refine (HTU.out _).mono ?_
            rintro ev wt ⟨rfl, ht⟩
            rw [ht]
            clear ht wt
            go_wp2_with (at_builtin; refine wpList_append_own_at _ rfl _ _ 31 rfl w.heap.size 3 ti (.int .i64 0) 1 8 underInts HI.out.1 HI.out.2.1 HI.out.2.2.1 HI.out.2.2.2 rfl (by decide) (.slice (some ⟨r, 0, none⟩) N cap) _ _ rfl (row_kept HT11.out (fun _ hq => heap_alloc_old _ _ hq)) ⟨w11.heap.size, 0, none⟩ 2 2 [.int .i64 (x1 : Int), .int .i64 (x2 : Int)] rfl rfl (cell_two_new _ _ _ _) (ones [(x1 : Int), (x2 : Int)]) (by rw [nats_len]; unfold maxLen; have := HN.out; omega) (by rw [nats_len]; have := HN.out; omega) (by rw [size_alloc']; omega) ?_; intro v13 w13 hown hgrow hnil hat)
            have HT13 : Hid (Is' w13 w.heap.size v13 (nats (td ++ [x1, x2]))) := by
              unfold Hid Is'
              rw [nats_app, List.length_append, List.map_append]; exact hown
            have hb13 : Below w.heap.size w w13 := low_grown HB11.out (by omega) hgrow (fun q hq => (HT11.out.lt q hq).1)
            have HF13 : Hid (Is' w13 w.heap.size v10 (nats (found ++ [x]))) := row_own HF11.out (fun b hb => by
              have hbl := (HF11.out.lt b hb).2
              exact (hgrow.block b (by rw [size_alloc']; omega) (fun e => HA10.out b hb (by injection e))).trans (heap_alloc_old _ _ hbl))
            have HM13 : Hid (Im w13 w.heap.size (polF (found ++ [x]))) := Im.kept HM11.out ((hgrow.block _ (by rw [size_alloc']; omega) (fun e => HP7.out (by injection e with e; exact e.symm))).trans (heap_alloc_old _ _ (by omega)))
            have HA13 : Hid (∀ b, v10.ownBlock = some b → v13.ownBlock ≠ some b) := fun b hb e => by
              rcases hat with h1 | h1
              · rw [h1] at e
                exact HA10.out b hb (by injection e with e; exact e.symm)
              · rw [h1, size_alloc'] at e
                injection e with e
                have := (HF11.out.lt b hb).2
                omega
            have HSL3 : Hid (slen v13 = N + 2) := by unfold Hid; rw [HT13.out.slen, HN.out]; simp
            have HB13 : Hid _ := hb13
            clear hown hgrow hnil hat hb13
            (try go_wp2_with fail)
            exact ⟨⟨found ++ [x], td ++ [x1, x2], ⟨HF13.out, HT13.out, HA13.out, HM13.out, HB13.out⟩, HU2.out⟩, by rw [HSL.out, HSL6.out, HSL3.out]; simp [slen]; omega⟩
      · go_wp2_with fail
        exact ⟨⟨found, td, HW2.out, hU.out.skip (by have := HBX.out; simpa using this.symm)⟩, by simp [slen]⟩
end Go.Proofs.Ytajpnlmglkifcaa
