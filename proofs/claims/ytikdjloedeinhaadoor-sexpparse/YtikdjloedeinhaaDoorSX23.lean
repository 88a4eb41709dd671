/- Contracts (the document's): Parse. (Made by a script.) -/
import Derived.Test.YtikdjloedeinhaaDoorSX22
namespace Go.Proofs.YtikdjloedeinhaaDoor
open Go.RowKit
set_option linter.unusedSimpArgs false
set_option linter.unusedVariables false

theorem underSS : Tryd.prog.underlying 57 = some (.slice 23) := by kernel_rfl
theorem underII : Tryd.prog.underlying 58 = some (.slice 3) := by kernel_rfl
theorem infoSS : (Tryd.prog.info? 23).map (fun i => (i.zero, i.size, i.bytes)) = some (some (.slice none 0 0), 1, 24) := by kernel_rfl
theorem infoII : (Tryd.prog.info? 3).map (fun i => (i.zero, i.size, i.bytes)) = some (some (.int .i64 0), 1, 8) := by kernel_rfl
/-- What is held while the document reads. -/
structure DI (w wr : World) (t : ByteArray) (so fo : Value) (k : Nat) : Prop where
  ex : ∃ D fs, Dz wr D w.heap.size so fo fs ∧ Bd fs k ∧ Vt t ⟨k, stOf fs, .no⟩ = Vt t s0
  le : k ≤ t.size
  bel : Below w.heap.size w wr
theorem Bd.up {fs : List Fm} {k : Nat} (h : Bd fs k) : Bd fs (k + 1) := ⟨h.ne, h.deep, fun f hf => by have := h.many f hf; omega⟩
theorem Bd.mono {fs : List Fm} {k j : Nat} (h : Bd fs k) (hj : k ≤ j) : Bd fs j := ⟨h.ne, h.deep, fun f hf => by have := h.many f hf; omega⟩
/-- While a remark is read. -/
def RmI (t : ByteArray) (k : Nat) (st : Stk) (j : Nat) : Prop := j = k ∨ (k < j ∧ Vt t ⟨k, st, .no⟩ = Vt t ⟨j, st, .rem⟩)
theorem Dz.fo {w : World} {D : Nat → Prop} {B : Nat} {so fo : Value} {gs : List Fm} {f : Fm} (h : Dz w D B so fo (gs ++ [f])) : ∃ af cf, fo = .slice af gs.length cf := by
  have hl : (gs ++ [f]).length - 1 = gs.length := by simp
  have h2 := h.fr.2
  rw [hl] at h2
  rcases h2 with ⟨e1, e2⟩ | ⟨g, c, _, e1, -⟩
  · exact ⟨none, 0, by rw [e1, e2]⟩
  · exact ⟨_, _, e1⟩
/-- The last open list's place. -/
theorem Dz.from {w : World} {D : Nat → Prop} {B N cf : Nat} {so : Value} {af : Option Addr} {gs : List Fm} {f : Fm} (h : Dz w D B so (.slice af N cf) (gs ++ [f])) (hne : gs ≠ []) (hN : N = gs.length) : ∃ g, af = some ⟨g, 0, none⟩ ∧ N ≤ cf ∧ w.cell? ⟨g, N - 1, none⟩ = some (.int .i64 (f.pl : Int)) := by
  have hl : (gs ++ [f]).length - 1 = gs.length := by simp
  have h0 : 0 < gs.length := List.length_pos_iff.2 hne
  have h2 := h.fr.2
  rw [hl] at h2
  rcases h2 with ⟨e1, e2⟩ | ⟨g, c, cur, e1, hb, hg, hc, hm, hs, ht⟩
  · omega
  · injection e1 with e1 e2 e3
    subst e1 e3
    refine ⟨g, rfl, by omega, cell_of hg _ ?_⟩
    have h3 : ((gs ++ [f]).tail.map fun f => Value.int .i64 (f.pl : Int))[N - 1]? = some (.int .i64 (f.pl : Int)) := by
      rcases gs with _ | ⟨a, l⟩
      · exact absurd rfl hne
      · have : N - 1 = l.length := by rw [hN]; simp
        rw [this]; simp
    rw [← ht, List.getElem?_take_of_lt (by omega)] at h3
    simpa using h3
/-- One more open list. -/
theorem Dz.push {x y z : World} {D : Nat → Prop} {B n co : Nat} {ao : Option Addr} {fo : Value} {fs : List Fm} {f : Fm} {v1 v2 : Value} {b1 b2 : Obj} (h : Dz x D B (.slice ao n co) fo fs) (hf : f.v = .slice none 0 0 ∧ f.es = []) (hB : B ≤ x.heap.size)
    (ho1 : y.ownsRow B 23 1 v1 (fs.length + 1) (fs.flatMap csD ++ [.slice none 0 0])) (hg1 : (x.alloc b1).grownBy y (Value.slice ao n co).ownBlock) (ha1 : v1.ownBlock = (Value.slice ao n co).ownBlock ∨ v1.ownBlock = some (x.alloc b1).heap.size)
    (ho2 : z.ownsRow B 3 1 v2 (fs.length - 1 + 1) ((fs.tail.map fun f => Value.int .i64 (f.pl : Int)) ++ [.int .i64 (f.pl : Int)])) (hg2 : (y.alloc b2).grownBy z fo.ownBlock) (ha2 : v2.ownBlock = fo.ownBlock ∨ v2.ownBlock = some (y.alloc b2).heap.size) (hne : fs ≠ [] := by simp) :
    Dz z D B v1 v2 (fs ++ [f]) ∧ Below B x z := by
  have hxa : (x.alloc b1).heap.size = x.heap.size + 1 := by simp
  have hya : (y.alloc b2).heap.size = y.heap.size + 1 := by simp
  have hxy : x.heap.size + 1 ≤ y.heap.size := by have := hg1.size; omega
  have hyz : y.heap.size + 1 ≤ z.heap.size := by have := hg2.size; omega
  have ha := h.os.apart
  rw [List.pairwise_cons] at ha
  have hlt : ∀ b, (some b ∈ (Value.slice ao n co).ownBlock :: fs.map (fun f => f.v.ownBlock) ∨ D b) → B ≤ b ∧ b < x.heap.size := fun b hb => h.os.lt b hb
  have hkx : ∀ b, b < x.heap.size → some b ≠ (Value.slice ao n co).ownBlock → y.heap[b]? = x.heap[b]? := fun b hb hn => (hg1.block b (by omega) hn).trans (heap_alloc_old _ _ hb)
  have hky : ∀ b, b < y.heap.size → some b ≠ fo.ownBlock → z.heap[b]? = y.heap[b]? := fun b hb hn => (hg2.block b (by omega) hn).trans (heap_alloc_old _ _ hb)
  have hfm : ∀ b, (some b ∈ fs.map (fun f => f.v.ownBlock) ∨ D b) → some b ≠ (Value.slice ao n co).ownBlock := by
    intro b hb e
    rcases hb with hb | hb
    · rcases ha.1 _ hb with e1 | e1
      · rw [← e] at e1; cases e1
      · exact e1 e.symm
    · exact h.os.live b (by rw [e]; simp) hb
  have hfo : ∀ b, fo.ownBlock = some b → b < x.heap.size ∧ B ≤ b := fun b hb => ⟨(h.fr.lt b hb).2, (h.fr.lt b hb).1⟩
  have hl1 : (fs ++ [f]).length = fs.length + 1 := by simp
  have hv1 : ∀ b, v1.ownBlock = some b → some b ≠ fo.ownBlock := by
    intro b hb e
    have h1 := hfo b e.symm
    rcases ha1 with e1 | e1
    · exact (h.out b e.symm).1 (by rw [← hb, e1]; simp)
    · rw [hb] at e1; injection e1 with e1; omega
  have hrow : z.ownsRow B 23 1 v1 (fs ++ [f]).length ((fs ++ [f]).flatMap csD) := by
    rw [hl1, List.flatMap_append]
    have h1 : [f].flatMap csD = [.slice none 0 0] := by simp [csD, hf.1]
    rw [h1]
    exact row_own ho1 (fun b hb => hky b (ho1.lt b hb).2 (hv1 b hb))
  refine ⟨⟨h.os.push hf hrow (by omega) ?_ ?_, ?_, ?_⟩, ?_⟩
  · rcases ha1 with e1 | e1
    · exact Or.inl e1
    · exact Or.inr ⟨_, e1, by omega⟩
  · intro b hb
    have h1 := hlt b (hb.imp (fun e => List.mem_cons_of_mem _ e) id)
    refine (hky b (by omega) ?_).trans (hkx b h1.2 (hfm b hb))
    intro e
    rcases hb with hb | hb
    · exact (h.out b e.symm).1 (List.mem_cons_of_mem _ hb)
    · exact (h.out b e.symm).2 hb
  · rw [hl1]
    have e1 : (fs ++ [f]).tail.map (fun f => Value.int .i64 (f.pl : Int)) = (fs.tail.map fun f => Value.int .i64 (f.pl : Int)) ++ [.int .i64 (f.pl : Int)] := by
      cases fs with
      | nil => exact absurd rfl hne
      | cons a l => simp
    have h0 : 0 < fs.length := List.length_pos_iff.2 hne
    rw [e1, show fs.length + 1 - 1 = fs.length - 1 + 1 by omega]
    exact ho2
  · intro b hb
    have h2 := (ho2.lt b hb)
    rcases ha2 with e | e
    · rw [hb] at e
      have h1 := hfo b e.symm
      obtain ⟨o1, o2⟩ := h.out b e.symm
      refine ⟨?_, o2⟩
      rw [List.map_append, List.map_singleton, hf.1]
      intro hm
      rcases List.mem_cons.1 hm with e1 | hm
      · exact hv1 b e1.symm e
      · rcases List.mem_append.1 hm with hm | hm
        · exact o1 (List.mem_cons_of_mem _ hm)
        · have e2 := List.mem_singleton.1 hm; cases e2
    · rw [hb] at e
      injection e with e
      refine ⟨?_, fun hd => by have := (h.os.done b hd).2; omega⟩
      rw [List.map_append, List.map_singleton, hf.1]
      intro hm
      rcases List.mem_cons.1 hm with e1 | hm
      · have := (ho1.lt b e1.symm).2; omega
      · rcases List.mem_append.1 hm with hm | hm
        · have := (hlt b (Or.inl (List.mem_cons_of_mem _ hm))).2; omega
        · have e2 := List.mem_singleton.1 hm; cases e2
  · refine ⟨hg2.os.trans hg1.os, hg2.tape.trans hg1.tape, hg2.output.trans hg1.output, by omega, fun b hb => ?_⟩
    refine (hky b (by omega) (fun e => by have := (hfo b e.symm).2; omega)).trans (hkx b (by omega) (fun e => ?_))
    have := (h.os.row.lt b e.symm).1
    omega
/-- Behind a region that lays an entry into the innermost list. -/
theorem Dz.done {x z : World} {D : Nat → Prop} {B R cap N m il ib ia ie is : Nat} {fo fv : Value} {gs : List Fm} {f : Fm} {e : En} {cr : Array Value} {zs es : List Value} {g : Nat → Nat} {L : Nat → Bool}
    (h : Dz x D B (.slice (some ⟨R, 0, none⟩) (N + 1) cap) fo (gs ++ [f])) (hN : N = gs.length) (hm : m = f.es.length) (hfv : f.v = fv) (hS : BSt x B 35 3 fv m (f.es.flatMap ecs) zs es R N cr 23 il ib ia ie is g L z) (hLa : L ia = true) (hLs : L is = true) (hE : (if L ie = true then es else zs) = ecs e) (hr : Row x D e.1.ks e.2) (hB : B ≤ x.heap.size)
    (h0 : B ≤ R ∧ R < x.heap.size ∧ cap ≤ maxLen ∧ x.heap[R]? = some (.cells cr 23 (0, 0)) ∧ cr.size = cap * 1 ∧ cr.toList.take ((N + 1) * 1) = (gs ++ [f]).flatMap csD ∧ x.cell? ⟨R, N, none⟩ = some f.v) (hcp : N + 1 ≤ cap) :
    ∃ v', Dz z D B (.slice (some ⟨R, 0, none⟩) (N + 1) cap) fo (gs ++ [⟨f.pl, v', f.es ++ [e]⟩]) ∧ Below B x z := by
  obtain ⟨q, capq, cur, hL, hR, -, hc1, hc2⟩ := hS.fin hLa hLs hE
  subst hN hm hfv
  obtain ⟨h1, h2, h3, h4, h5, h6, h7⟩ := h0
  refine ⟨_, h.laid hL hr hB hR h1 hcp h3 h5 h6 hc1 hc2, hL.os, hL.tape, hL.output, hL.size, fun b hb => hL.block b (by omega) (by omega) (fun e1 => ?_)⟩
  have := ((h.os.own f (by simp)).lt b e1.symm).1
  omega
/-- The last open list is taken away. -/
theorem Dz.pop {x : World} {D : Nat → Prop} {B R cap ga cf M : Nat} {hs : List Fm} {p f : Fm} (h : Dz x D B (.slice (some ⟨R, 0, none⟩) (M + 1 + 1) cap) (.slice (some ⟨ga, 0, none⟩) (M + 1) cf) (hs ++ [p] ++ [f])) (hM : M = hs.length) :
    Dz x (fun b => D b ∨ f.v.ownBlock = some b) B (.slice (some ⟨R, 0, none⟩) (M + 1) cap) (.slice (some ⟨ga, 0, none⟩) M cf) (hs ++ [p]) ∧ Row x (fun b => D b ∨ f.v.ownBlock = some b) f.ks f.v := by
  obtain ⟨h1, h2⟩ := h.os.pop (by rw [csD_len]) (by rw [hM]; simp) (by simp)
  refine ⟨⟨h1, ?_, ?_⟩, h2⟩
  · have hl : (hs ++ [p] ++ [f]).length - 1 = M + 1 := by rw [hM]; simp
    have hl2 : (hs ++ [p]).length - 1 = M := by rw [hM]; simp
    have h3 := h.fr
    rw [hl] at h3
    rw [hl2]
    have ht0 : (hs ++ [p] ++ [f]).tail.map (fun f => Value.int .i64 (f.pl : Int)) = (hs ++ [p]).tail.map (fun f => Value.int .i64 (f.pl : Int)) ++ [.int .i64 (f.pl : Int)] := by
      cases hs <;> simp
    have hlm : ((hs ++ [p]).tail.map (fun f => Value.int .i64 (f.pl : Int))).length = M := by rw [List.length_map, List.length_tail, hl2]
    rcases h3.2 with ⟨e, -⟩ | ⟨R', cap', cur, hv, hb, hgg, hc, hm, hss, htk⟩
    · cases e
    · injection hv with e1 e2 e3
      injection e1 with e1
      injection e1 with e1
      subst e1 e3
      refine ⟨by rw [hlm]; omega, Or.inr ⟨ga, cf, cur, rfl, hb, hgg, by omega, hm, hss, ?_⟩⟩
      have h4 := congrArg (List.take M) htk
      rw [List.take_take, ht0, List.take_append_of_le_length (by omega), List.take_of_length_le (Nat.le_of_eq hlm), show min M ((M + 1) * 1) = M * 1 by omega] at h4
      exact h4
  · intro b hb
    obtain ⟨o1, o2⟩ := h.out b hb
    have ho : some b ∉ (Value.slice (some ⟨R, 0, none⟩) (M + 1) cap).ownBlock :: (hs ++ [p]).map (fun f => f.v.ownBlock) := by
      intro hm
      rcases List.mem_cons.1 hm with e | hm
      · exact o1 (List.mem_cons.2 (Or.inl e))
      · exact o1 (List.mem_cons_of_mem _ (by rw [List.map_append]; exact List.mem_append_left _ hm))
    refine ⟨ho, ?_⟩
    rintro (hd | hd)
    · exact o2 hd
    · exact o1 (List.mem_cons_of_mem _ (List.mem_map.2 ⟨f, by simp, hd⟩))
/-- The innermost list's cell, and the row. -/
theorem Dz.b0 {x : World} {D : Nat → Prop} {B R cap N : Nat} {fo : Value} {gs : List Fm} {f : Fm} (h : Dz x D B (.slice (some ⟨R, 0, none⟩) (N + 1) cap) fo (gs ++ [f])) (hN : N = gs.length) :
    ∃ cr, B ≤ R ∧ R < x.heap.size ∧ cap ≤ maxLen ∧ x.heap[R]? = some (.cells cr 23 (0, 0)) ∧ cr.size = cap * 1 ∧ cr.toList.take ((N + 1) * 1) = (gs ++ [f]).flatMap csD ∧ x.cell? ⟨R, N, none⟩ = some f.v := by
  obtain ⟨R', cap', cr, e, h1, h2, h3, h4, h5, h6, h7, h8⟩ := h.last
  injection e with e1 e2 e3
  injection e1 with e1
  injection e1 with e1
  subst e1 e3 hN
  exact ⟨cr, h1, h2, h4, h5, h6, h7, h8⟩
theorem u8_ne {c : UInt8} {n : Nat} (hn : n < 256) (h : ¬ c = UInt8.ofNat n) : ((c.toNat : Int) == (n : Int)) = false := by rw [u8_eq c n hn]; simp [h]
set_option maxRecDepth 20000 in
set_option maxHeartbeats 25600000 in
theorem rParse_any {t : ByteArray} (ht : t.size ≤ 65536) (w : World) : Calls Tryd.prog 11 #[.string t] w fun ev w' => ∃ v, ev = .returned (.tuple #[v, .int .i64 ((pars t).2.1 : Int), .int .i64 ((pars t).2.2 : Int)]) ∧ (∃ D, Row w' D (pars t).1 v ∧ ∀ b, D b → w.heap.size ≤ b ∧ b < w'.heap.size) ∧ Below w.heap.size w w' := by
  have hV0 : pars t = Vt t s0 := pars_Vt (by omega)
  rw [hV0]
  clear hV0
  have htI : (t.size : Int) ≤ 65536 := by omega
  obtain ⟨ti, ht0, hz0, hz1, hz2⟩ := info_any infoS
  have HI0 : Hid _ := (⟨ht0, hz0, hz1, hz2⟩ : Tryd.prog.info? 35 = some ti ∧ ti.zero = _ ∧ ti.size = 3 ∧ ti.bytes = 48)
  clear ht0 hz0 hz1 hz2
  obtain ⟨ts, ht0, hz0, hz1, hz2⟩ := info_any infoSS
  have HIS : Hid _ := (⟨ht0, hz0, hz1, hz2⟩ : Tryd.prog.info? 23 = some ts ∧ ts.zero = _ ∧ ts.size = 1 ∧ ts.bytes = 24)
  clear ht0 hz0 hz1 hz2
  obtain ⟨tn, ht0, hz0, hz1, hz2⟩ := info_any infoII
  have HII : Hid _ := (⟨ht0, hz0, hz1, hz2⟩ : Tryd.prog.info? 3 = some tn ∧ tn.zero = _ ∧ tn.size = 1 ∧ tn.bytes = 8)
  clear ht0 hz0 hz1 hz2
  go_enter Tryd.func11, Tryd.ntmps11
  go_wp2_with fail
  go_loopw [5, 6, 7] (fun so fo i wr => ∃ k : Nat, i = .int .i64 (k : Int) ∧ Hid (DI w wr t so fo k)) (fun so fo i wr => t.size - (intOf i).toNat)
  case atStart =>
    refine ⟨0, rfl, ⟨⟨fun _ => False, [⟨0, .slice none 0 0, []⟩], ⟨⟨⟨rfl, Or.inr ⟨w.heap.size, 1, #[.slice none 0 0], rfl, Nat.le_refl _, heap_alloc_new w _, by simp, by decide, rfl, rfl⟩⟩, ?_, ?_, ?_, (fun _ _ h => h), (fun _ h => h.elim)⟩, World.ownsRow_nil _ _ _ _, (fun b e => by cases e)⟩, ⟨by simp, by simp, ?_⟩, rfl⟩, Nat.zero_le _, (Below.refl _ _).alloc (Nat.le_refl _) _⟩⟩
    · intro f hf; rw [List.mem_singleton.1 hf]; exact World.ownsRow_nil _ _ _ _
    · intro f hf e he; rw [List.mem_singleton.1 hf] at he; cases he
    · simp [Value.ownBlock, Ap]
    · intro f hf; rw [List.mem_singleton.1 hf]; exact ⟨Nat.le_refl _, Nat.le_refl _⟩
  case round =>
    obtain ⟨k, rfl, hH⟩ := hrel
    obtain ⟨D, fs, hDz, hBd, hV⟩ := hH.out.ex
    have hle := hH.out.le
    have hbl := hH.out.bel
    have hsz := hbl.size
    obtain ⟨gs, f, rfl⟩ := split_last hBd.ne
    have hgl : gs.length ≤ 200 := by have := hBd.deep; simpa using this
    have hfm := hBd.many f (by simp)
    obtain ⟨R, cap, cr, rfl, hBR, hRl, hcp, hcm, hhd, hcs, hct, r1⟩ := hDz.last
    obtain ⟨af, cf, hfo⟩ := hDz.fo
    obtain ⟨N, hN⟩ : ∃ N, N = gs.length := ⟨_, rfl⟩
    rw [← hN] at hDz hcp hct r1 hgl hfo
    have HFO : Hid _ := hfo
    clear hfo
    rw [← hN]
    have HN : Hid _ := hN
    have HDZ : Hid _ := hDz
    have HB0 : Hid (w.heap.size ≤ R ∧ R < wr.heap.size ∧ cap ≤ maxLen ∧ wr.heap[R]? = some (.cells cr 23 (0, 0)) ∧ cr.size = cap * 1 ∧ cr.toList.take ((N + 1) * 1) = (gs ++ [f]).flatMap csD ∧ wr.cell? ⟨R, N, none⟩ = some f.v) := ⟨hBR, hRl, hcm, hhd, hcs, hct, r1⟩
    have HBD : Hid _ := hBd
    have HV : Hid _ := hV
    have HBL : Hid _ := hbl
    clear hDz hBd hV hbl hBR hRl hcm hhd hcs hct r1 hN hH
    by_cases hlt : k < t.size
    · have hltI : (k : Int) < (t.size : Int) := by omega
      obtain ⟨c, hc⟩ : ∃ c, c = t[k]'hlt := ⟨_, rfl⟩
      have HBK : Hid (∀ wx, Calls Tryd.prog 27 #[.int .u8 ((t[k]'hlt).toNat : Int)] wx fun e w' => e = .returned (.bool (blk c)) ∧ w' = wx) := fun wx => by rw [hc]; exact rblank_any _ wx
      have HC : Hid _ := hc
      clear hc
      by_cases hbk : blk c = true
      · rw [hbk] at HBK
        have HK : Hid _ := hbk
        clear hbk
        go_wp2_with fail
        refine Calls.mono (HBK.out _) ?_
        rintro ev w1 ⟨rfl, hw1⟩
        rw [hw1]
        clear hw1 w1
        go_wp2_with fail
        exact ⟨⟨k + 1, by first | rfl | trivial, ⟨⟨D, _, HDZ.out, HBD.out.up, (Vt_blank hlt (by rw [← HC.out]; exact HK.out)).symm.trans HV.out⟩, by omega, HBL.out⟩⟩, by simp [intOf]; omega⟩
      · have hbk' : blk c = false := by simpa using hbk
        rw [hbk'] at HBK
        have HK : Hid _ := hbk'
        clear hbk hbk'
        by_cases h59 : c = 59
        · have hq59 : ((t[k]'hlt).toNat : Int) = 59 := by rw [← HC.out, h59]; rfl
          rw [hq59] at HBK
          have H59 : Hid (t[k]'hlt = 59) := by rw [← HC.out]; exact h59
          clear h59
          go_wp2_with fail
          refine Calls.mono (HBK.out _) ?_
          rintro ev w1 ⟨rfl, hw1⟩
          rw [hw1]
          clear hw1 w1
          go_wp2_with fail
          go_loopw [7] (fun i wq => ∃ j : Nat, k ≤ j ∧ j ≤ t.size ∧ i = .int .i64 (j : Int) ∧ Hid (RmI t k (stOf (gs ++ [f])) j) ∧ wq = wr) (fun i wq => t.size - (intOf i).toNat)
          case atStart => exact ⟨k, Nat.le_refl _, hle, rfl, Or.inl rfl, rfl⟩
          case round =>
            obtain ⟨j, hkj, hj, rfl, hB, rfl⟩ := hrel
            by_cases hl2 : j < t.size
            · have hlI : (j : Int) < (t.size : Int) := by omega
              by_cases h10 : t[j]'hl2 = 10
              · have hx : (((t[j]'hl2).toNat : Int) != 10) = false := by rw [h10]; rfl
                have HZ : Hid (k < j ∧ Vt t s0 = Vt t ⟨j, stOf (gs ++ [f]), .no⟩) := by
                  rcases hB.out with e | ⟨e1, e2⟩
                  · subst e; rw [H59.out] at h10; exact absurd h10 (by decide)
                  · exact ⟨e1, (HV.out.symm.trans e2).trans (Vt_line hl2 h10)⟩
                clear h10 hB
                go_wp2_with fail
                exact ⟨⟨j, by first | rfl | trivial, ⟨⟨D, _, HDZ.out, HBD.out.mono hkj, HZ.out.2.symm⟩, hj, HBL.out⟩⟩, by have := HZ.out.1; simp [intOf]; omega⟩
              · have hx : (((t[j]'hl2).toNat : Int) != 10) = true := by simp; exact fun e => h10 ((u8_10 _).1 e)
                have HZ : Hid (RmI t k (stOf (gs ++ [f])) (j + 1)) := by
                  rcases hB.out with e | ⟨e1, e2⟩
                  · subst e; exact Or.inr ⟨by omega, Vt_semi hl2 H59.out⟩
                  · exact Or.inr ⟨by omega, e2.trans (Vt_rem hl2 h10)⟩
                clear h10 hB
                go_wp2_with fail
                exact ⟨⟨j + 1, by omega, by omega, by first | rfl | trivial, HZ.out, by first | rfl | trivial⟩, by simp [intOf]; omega⟩
            · have hlI : (t.size : Int) ≤ (j : Int) := by omega
              have HZ : Hid (k < j ∧ Vt t s0 = Vt t ⟨j, stOf (gs ++ [f]), .no⟩) := by
                rcases hB.out with e | ⟨e1, e2⟩
                · omega
                · exact ⟨e1, (HV.out.symm.trans e2).trans (Vt_rend (by omega))⟩
              clear hB
              go_wp2_with fail
              exact ⟨⟨j, by first | rfl | trivial, ⟨⟨D, _, HDZ.out, HBD.out.mono hkj, HZ.out.2.symm⟩, hj, HBL.out⟩⟩, by have := HZ.out.1; simp [intOf]; omega⟩
        · have hq59 : (((t[k]'hlt).toNat : Int) == 59) = false := by rw [← HC.out]; exact u8_ne (by decide) h59
          have H59 : Hid _ := h59
          clear h59
          by_cases h40 : c = 40
          · have hq40 : ((t[k]'hlt).toNat : Int) = 40 := by rw [← HC.out, h40]; rfl
            rw [hq40] at HBK
            clear hq59
            have hq59 : ((40 : Int) == 59) = false := by decide
            have HV4 : Hid (Vt t s0 = if N = 200 then ([], k, 23) else Vt t ⟨k + 1, stOf (gs ++ [f] ++ [⟨k, .slice none 0 0, []⟩]), .no⟩) := by
              unfold Hid
              rw [← HV.out, Vt_step (s := ⟨k, stOf (gs ++ [f]), .no⟩) hlt]
              simp only [stA, stN]
              rw [← HC.out, h40, if_neg (by decide), if_neg (by decide), if_pos rfl, stOf_len, List.length_append, ← HN.out]
              show Vt t (if N + 1 = 201 then _ else _) = _
              by_cases h2 : N = 200
              · rw [if_pos h2, if_pos (by omega)]; exact Vt_err _ _ rfl rfl
              · rw [if_neg h2, if_neg (by omega), stOf_snoc (gs ++ [f])]; rfl
            clear h40
            by_cases h2 : N = 200
            · subst h2
              have HF2 : Hid (Vt t s0 = ([], k, 23)) := by unfold Hid; rw [HV4.out, if_pos rfl]
              go_wp2_with fail
              refine Calls.mono (HBK.out _) ?_
              rintro ev w1 ⟨rfl, hw1⟩
              rw [hw1]
              clear hw1 w1
              go_wp2_with fail
              go_ret3
              exact ⟨.slice none 0 0, by rw [HF2.out]; first | rfl | trivial, ⟨fun _ => False, by rw [HF2.out]; exact .nil _ _, fun _ h => h.elim⟩, HBL.out⟩
            · have HF2 : Hid (Vt t s0 = Vt t ⟨k + 1, stOf (gs ++ [f] ++ [⟨k, .slice none 0 0, []⟩]), .no⟩) := by unfold Hid; rw [HV4.out, if_neg h2]
              have h3 : (N : Int) < 200 := by omega
              have hN200 : N < 200 := by omega
              have HL1 : Hid ((gs ++ [f]).length = N + 1) := by unfold Hid; rw [List.length_append, HN.out]; rfl
              have HO1 : Hid (wr.ownsRow w.heap.size 23 1 (.slice (some ⟨R, 0, none⟩) (N + 1) cap) (N + 1) ((gs ++ [f]).flatMap csD)) := by
                have := HDZ.out.os.row
                rw [HL1.out] at this; exact this
              have HO2 : Hid (wr.ownsRow w.heap.size 3 1 u6 N ((gs ++ [f]).tail.map fun f => Value.int .i64 (f.pl : Int))) := by
                have := HDZ.out.fr
                rw [HL1.out] at this; exact this
              clear h2
              go_wp2_with fail
              refine Calls.mono (HBK.out _) ?_
              rintro ev w1 ⟨rfl, hw1⟩
              rw [hw1]
              clear hw1 w1
              go_wp2_with (at_builtin; first | (refine wpList_append_own_at _ rfl _ _ 57 rfl w.heap.size 23 ts (.slice none 0 0) 1 24 underSS HIS.out.1 HIS.out.2.1 HIS.out.2.2.1 HIS.out.2.2.2 rfl (by decide) (.slice (some ⟨R, 0, none⟩) (N + 1) cap) _ _ rfl (row_own HO1.out (fun k hk => heap_alloc_old _ _ (HO1.out.lt k hk).2)) ⟨wr.heap.size, 0, none⟩ 1 1 [.slice none 0 0] rfl rfl (cell_one_new _ _ _) (by intro u hu; simp at hu; subst hu; rfl) (by unfold maxLen; omega) (by omega) (by simp; omega) ?_; intro v1 w1 hown hgrow hnil hat; have HG1 : Hid _ := hgrow; have HA1 : Hid _ := hat; have HW1 : Hid _ := hown; have hs1 : wr.heap.size < w1.heap.size := (by have := hgrow.size; simp at this; omega); have HO3 : Hid (w1.ownsRow w.heap.size 3 1 u6 N ((gs ++ [f]).tail.map fun f => Value.int .i64 (f.pl : Int))) := row_own HO2.out (fun b hb => (hgrow.block b (by have := (HO2.out.lt b hb).2; simp; omega) (fun e => (HDZ.out.out b hb).1 (by rw [e]; simp))).trans (heap_alloc_old _ _ (HO2.out.lt b hb).2)); clear hown hgrow hnil hat) | (refine wpList_append_own_at _ rfl _ _ 58 rfl w.heap.size 3 tn (.int .i64 0) 1 8 underII HII.out.1 HII.out.2.1 HII.out.2.2.1 HII.out.2.2.2 rfl (by decide) u6 _ _ rfl (row_own HO3.out (fun k hk => heap_alloc_old _ _ (HO3.out.lt k hk).2)) ⟨w1.heap.size, 0, none⟩ 1 1 [.int .i64 (k : Int)] rfl rfl (cell_one_new _ _ _) (by intro u hu; simp at hu; subst hu; rfl) (by unfold maxLen; omega) (by omega) (by simp; omega) ?_; intro v2 w2 hown hgrow hnil hat))
              obtain ⟨hDz, hbz⟩ := HDZ.out.push (f := ⟨k, .slice none 0 0, []⟩) ⟨rfl, rfl⟩ hsz (by rw [HL1.out]; exact HW1.out) HG1.out HA1.out (by rw [HL1.out]; exact hown) hgrow hat
              exact ⟨⟨k + 1, by first | rfl | trivial, ⟨⟨D, _, hDz, ⟨by simp, by rw [List.length_append, HL1.out]; show N + 1 + 1 ≤ 201; omega, fun g hg => by
                rcases List.mem_append.1 hg with hg | hg
                · have := HBD.out.many g hg; omega
                · rw [List.mem_singleton.1 hg]; exact ⟨Nat.zero_le _, Nat.le_succ _⟩⟩, HF2.out.symm⟩, by omega, HBL.out.trans hbz⟩⟩, by simp [intOf]; omega⟩
          · have hq40 : (((t[k]'hlt).toNat : Int) == 40) = false := by rw [← HC.out]; exact u8_ne (by decide) h40
            have H40 : Hid _ := h40
            clear h40
            by_cases h41 : c = 41
            · have hq41 : ((t[k]'hlt).toNat : Int) = 41 := by rw [← HC.out, h41]; rfl
              rw [hq41] at HBK
              clear hq59 hq40
              have hq59 : ((41 : Int) == 59) = false := by decide
              have hq40 : ((41 : Int) == 40) = false := by decide
              have HV4 : Hid (Vt t s0 = Vt t (stN k (stOf (gs ++ [f])) 41)) := by
                unfold Hid
                rw [← HV.out, Vt_step (s := ⟨k, stOf (gs ++ [f]), .no⟩) hlt]
                simp only [stA]
                rw [← HC.out, h41]
              clear h41
              rcases List.eq_nil_or_concat gs with e | ⟨hs, p, e⟩
              · subst e
                have hN0 : N = 0 := HN.out
                subst hN0
                have HF2 : Hid (Vt t s0 = ([], k, 21)) := by
                  unfold Hid
                  rw [HV4.out, stN_close]
                  exact Vt_err _ _ rfl rfl
                go_wp2_with fail
                refine Calls.mono (HBK.out _) ?_
                rintro ev w1 ⟨rfl, hw1⟩
                rw [hw1]
                clear hw1 w1
                go_wp2_with fail
                go_ret3
                exact ⟨.slice none 0 0, by rw [HF2.out]; first | rfl | trivial, ⟨fun _ => False, by rw [HF2.out]; exact .nil _ _, fun _ h => h.elim⟩, HBL.out⟩
              · rw [List.concat_eq_append] at e
                subst e
                obtain ⟨M, hM⟩ : ∃ M, M = hs.length := ⟨_, rfl⟩
                have hN1 : N = M + 1 := by rw [HN.out, hM]; simp
                subst hN1
                have HM : Hid _ := hM
                clear hM
                have hfo := HFO.out
                subst hfo
                obtain ⟨ga, hga, hgc, q1⟩ := HDZ.out.from (by simp) HN.out
                subst hga
                clear q1
                have HF2 : Hid (Vt t s0 = Vt t ⟨k + 1, addS (.mk ⟨#[]⟩ true f.ks) (stOf (hs ++ [p])), .no⟩) := by
                  unfold Hid
                  rw [HV4.out, stN_close, stOf_snoc, stOf_snoc]
                have r0 := HB0.out.2.2.2.2.2.2
                obtain ⟨av, cv, hfv⟩ := fslice HDZ.out.os (f := f) (by simp)
                obtain ⟨nv, hnv⟩ : ∃ nv, nv = f.es.length := ⟨_, rfl⟩
                rw [← hnv] at hfv
                rw [hfv] at r0
                have HFV0 : Hid _ := hfv
                clear hfv hnv
                have hi1 : (M : Int) + 1 < (M : Int) + 1 + 1 := by omega
                have hi2 : (M : Int) + 1 ≤ (cap : Int) := by omega
                have hi3 : (M : Int) ≤ (cf : Int) := by omega
                have hi0 : (0 : Int) ≤ (M : Int) := by omega
                have hi4 : (0 : Int) ≤ (M : Int) + 1 := by omega
                have hi5 : (((M : Int) + 1) == 0) = false := by simp; omega
                go_wp2_with fail
                refine Calls.mono (HBK.out _) ?_
                rintro ev w1 ⟨rfl, hw1⟩
                rw [hw1]
                clear hw1 w1
                go_wp2_with fail
                obtain ⟨wy, hwy⟩ : ∃ wy, wy = wr.alloc (.cells #[.string ⟨#[]⟩, .bool true, .slice av nv cv] 35) := ⟨_, rfl⟩
                rw [← hwy]
                have HWY : Hid _ := hwy
                clear hwy r0
                go_region
                go_wp2_with fail
                go_region
                all_goals go_wp2_with fail
                · obtain ⟨wz, hwz⟩ : ∃ wz, wz = (wy.alloc (.cells #[.bool false] 4)).drew.drew := ⟨_, rfl⟩
                  rw [← hwz]
                  have hbz : Below wr.heap.size wr wz := by
                    rw [hwz, HWY.out]
                    exact ((((Below.refl _ _).alloc (Nat.le_refl _) _).alloc (by simp) _).trans (drew_below _ _)).trans (drew_below _ _)
                  have hbx : wz.heap[wr.heap.size]? = some (.cells #[.string ⟨#[]⟩, .bool true, .slice av nv cv] 35 (0, 0)) := by
                    rw [hwz, HWY.out]
                    exact (heap_alloc_old _ _ (by simp)).trans (heap_alloc_new _ _)
                  have hsz2 : wr.heap.size < wz.heap.size := (Array.getElem?_eq_some_iff.1 hbx).1
                  have hsw : w.heap.size ≤ wz.heap.size := by omega
                  obtain ⟨hP, hRow⟩ := (HDZ.out.below hbz).pop HM.out
                  obtain ⟨cr, hB0⟩ := hP.b0 HM.out
                  have HBP : Hid (w.heap.size ≤ R ∧ R < wz.heap.size ∧ cap ≤ maxLen ∧ wz.heap[R]? = some (.cells cr 23 (0, 0)) ∧ cr.size = cap * 1 ∧ cr.toList.take ((M + 1) * 1) = (hs ++ [p]).flatMap csD ∧ wz.cell? ⟨R, M, none⟩ = some p.v) := hB0
                  have HDP : Hid _ := hP
                  have HRW : Hid _ := hRow
                  have HBZ : Hid _ := hbz
                  have b0 := cell_of hbx 0 rfl
                  have b1 := cell_of hbx 1 rfl
                  have b2 := cell_of hbx 2 rfl
                  have hbl := hsz2
                  have hbR : wr.heap.size ≠ R := by have := HB0.out.2.1; omega
                  have hpm : p.es.length ≤ k := (HBD.out.many p (by simp)).1
                  have hpo : ∀ b, p.v.ownBlock = some b → b < wr.heap.size := fun b hb => ((HDZ.out.os.own p (by simp)).lt b hb).2
                  clear hwz hbx hP hRow hbz hB0
                  have r1 := HBP.out.2.2.2.2.2.2
                  have hRl := HBP.out.2.1
                  obtain ⟨af, cf, hfv⟩ := fslice HDP.out.os (f := p) (by simp)
                  have hown := HDP.out.os.own p (by simp)
                  have hfR := (ownBlock_ne HDP.out.os).1
                  obtain ⟨m, hm⟩ : ∃ m, m = p.es.length := ⟨_, rfl⟩
                  have HMM : Hid _ := hm
                  rw [← hm] at hfv
                  have HFV : Hid _ := hfv
                  rw [hfv] at r1 hfR hown
                  rw [← hm] at hown
                  have HW : Hid (wz.ownsRow w.heap.size 35 3 (.slice af m cf) m (p.es.flatMap ecs)) := hown
                  have HBV : Hid (∀ k, (Value.slice af m cf).ownBlock = some k → k < wz.heap.size) := fun k hk => (hown.lt k hk).2
                  have HVR : Hid ((Value.slice af m cf).ownBlock ≠ some R) := hfR
                  have hRv : some R ≠ (Value.slice af m cf).ownBlock := fun e => hfR e.symm
                  have HOL : Hid ((p.es.flatMap ecs).length = m * 3) := by rw [hm]; exact ecs_len _
                  have HHD : Hid (wz.heap[R]? = some (.cells cr 23 (0, 0))) := HBP.out.2.2.2.1
                  have hmr : m ≤ 100000 := by have := HMM.out; omega
                  have hmI : (m : Int) < (m : Int) + 1 := by omega
                  clear hfv hown hfR hm
                  have hbv1 : some wr.heap.size ≠ (Value.slice af m cf).ownBlock := by
                    rw [← HFV.out]
                    intro e
                    have := hpo _ e.symm
                    omega
                  have hNI : (M : Int) < (M : Int) + 1 := by omega
                  have hwM : IntKind.i64.wrap (M : Int) = (M : Int) := by rw [IntKind.wrap_i64]; omega
                  refine wp_named fun a0 ha0 => ?_
                  have o5 := old_at ha0 (t := 5) rfl
                  have o8 := old_at ha0 (t := 8) rfl
                  have o9 := old_at ha0 (t := 9) rfl
                  refine wp_region_lin (S := BSt wz w.heap.size 35 3 (.slice af m cf) m (p.es.flatMap ecs) [.string ⟨#[]⟩, .bool true, .slice av nv cv] [.string ⟨#[]⟩, .bool true, .slice av nv cv] R M cr 23 7 9 10 99 12) [9, 10] (fun _ => 0) (by kernel_rfl) (by kernel_rfl) (by rw [← ha0]; kernel_rfl) (BSt.start (x := wz.drew) ⟨rfl, rfl, rfl, rfl⟩) ?_
                  refine' LinAll.cons _ ?_ ?_ ?_
                  rotate_left 1
                  · intro g L a x hLi haft hS hK
                    have t5 := (hK.old 5 (by kernel_rfl)).trans o5
                    (try dsimp only at t5)
                    refine go_in (wanted_all rfl) ?_
                    intro K hk
                    clear haft hK hLi
                    go_simp
                    exact hk.out g x (fun _ _ => rfl) (hS.go rfl)
                  · intro i hi; exact Or.inl (fun _ _ _ => rfl)
                  refine' LinAll.cons _ ?_ ?_ ?_
                  rotate_left 1
                  · intro g L a x hLi haft hS hK
                    have t8 := (hK.old 8 (by kernel_rfl)).trans o8
                    (try dsimp only at t8)
                    refine go_in (wanted_all rfl) ?_
                    intro K hk
                    clear haft hK hLi
                    go_simp
                    exact hk.out g x (fun _ _ => rfl) (hS.go rfl)
                  · intro i hi; exact Or.inl (fun _ _ _ => rfl)
                  refine' LinAll.cons _ ?_ ?_ ?_
                  rotate_left 1
                  · intro g L a x hLi haft hS hK
                    have t125 := hK.new 1 0 _ 125 _ rfl rfl rfl (by kernel_rfl) (waits haft 1 (by kernel_rfl))
                    (try dsimp only at t125)
                    refine go_in (wanted_all rfl) ?_
                    intro K hk
                    clear haft hK hLi
                    go_simp
                    exact hk.out g x (fun _ _ => rfl) (hS.go rfl)
                  · intro i hi; exact Or.inl (fun _ _ _ => rfl)
                  refine' LinAll.cons _ ?_ ?_ ?_
                  rotate_left 1
                  · intro g L a x hLi haft hS hK
                    have t5 := (hK.old 5 (by kernel_rfl)).trans o5
                    (try dsimp only at t5)
                    refine go_in (wanted_all rfl) ?_
                    intro K hk
                    clear haft hK hLi
                    go_simp
                    exact hk.out g x (fun _ _ => rfl) (hS.go rfl)
                  · intro i hi; exact Or.inl (fun _ _ _ => rfl)
                  refine' LinAll.cons _ ?_ ?_ ?_
                  rotate_left 1
                  · intro g L a x hLi haft hS hK
                    have t8 := (hK.old 8 (by kernel_rfl)).trans o8
                    (try dsimp only at t8)
                    refine go_in (wanted_all rfl) ?_
                    intro K hk
                    clear haft hK hLi
                    go_simp
                    exact hk.out g x (fun _ _ => rfl) (hS.go rfl)
                  · intro i hi; exact Or.inl (fun _ _ _ => rfl)
                  refine' LinAll.cons _ ?_ ?_ ?_
                  rotate_left 1
                  · intro g L a x hLi haft hS hK
                    have t128 := hK.new 4 0 _ 128 _ rfl rfl rfl (by kernel_rfl) (waits haft 4 (by kernel_rfl))
                    (try dsimp only at t128)
                    refine go_in (wanted_all rfl) ?_
                    intro K hk
                    clear haft hK hLi
                    go_simp
                    exact hk.out g x (fun _ _ => rfl) (hS.go rfl)
                  · intro i hi; exact Or.inl (fun _ _ _ => rfl)
                  refine' LinAll.cons _ ?_ ?_ ?_
                  rotate_left 1
                  · intro g L a x hLi haft hS hK
                    have t127 := hK.new 3 2 _ 127 _ rfl rfl rfl (by kernel_rfl) (waits haft 3 (by kernel_rfl))
                    have t129 := hK.new 5 0 _ 129 _ rfl rfl rfl (by kernel_rfl) (waits haft 5 (by kernel_rfl))
                    (try dsimp only at t127 t129)
                    refine go_in (wanted_all rfl) ?_
                    intro K hk
                    clear haft hK hLi
                    go_simp
                    exact hk.out g x (fun _ _ => rfl) (hS.go rfl)
                  · intro i hi; exact Or.inl (fun _ _ _ => rfl)
                  refine' LinAll.cons _ ?_ ?_ ?_
                  rotate_left 1
                  · intro g L a x hLi haft hS hK
                    have t130 := hK.new 6 0 _ 130 _ rfl rfl rfl (by kernel_rfl) (waits haft 6 (by kernel_rfl))
                    (try dsimp only at t130)
                    obtain ⟨na, ns⟩ := hS.noa hLi
                    have c1 : x.cell? ⟨R, M, none⟩ = some (.slice af m cf) := (World.cell?_of_block (a := ⟨R, _, none⟩) (hS.kp R hRl (fun _ => hRv) (fun e => by rw [ns] at e; cases e))).trans r1
                    clear na ns
                    refine go_in (wanted_all rfl) ?_
                    intro K hk
                    clear haft hK hLi
                    go_simp
                    exact hk.out g x (fun _ _ => rfl) (hS.go rfl)
                  · intro i hi; exact Or.inl (fun _ _ _ => rfl)
                  refine' LinAll.cons _ ?_ ?_ ?_
                  rotate_left 1
                  · intro g L a x hLi haft hS hK
                    have t9 := (hK.old 9 (by kernel_rfl)).trans o9
                    (try dsimp only at t9)
                    have hbq := hS.kp wr.heap.size hbl (fun _ => hbv1) (fun _ => hbR)
                    have d0 := (World.cell?_of_block (a := ⟨wr.heap.size, 0, none⟩) hbq).trans b0
                    have d1 := (World.cell?_of_block (a := ⟨wr.heap.size, 1, none⟩) hbq).trans b1
                    have d2 := (World.cell?_of_block (a := ⟨wr.heap.size, 2, none⟩) hbq).trans b2
                    clear hbq
                    refine go_in (wanted_all rfl) ?_
                    intro K hk
                    clear haft hK hLi
                    go_simp
                    exact hk.out g x (fun _ _ => rfl) (hS.go rfl)
                  · intro i hi; exact Or.inl (fun _ _ _ => rfl)
                  refine LinAll.cons (fun g => .slice (some ⟨g 9, 0, none⟩) 1 1) ?_ ?_ ?_
                  · intro g L a x hLi haft hS hK
                    have t132 := hK.new 8 0 _ 132 _ rfl rfl rfl (by kernel_rfl) (waits haft 8 (by kernel_rfl))
                    (try dsimp only at t132)
                    refine go_in (wanted_all rfl) ?_
                    intro K hk
                    clear haft hK
                    go_simp
                    have hq := hk.out (updG g 9 x.heap.size) _ (updG_al (by rfl)) (hS.built hLi (by decide))
                    dsimp only at hq
                    rw [updG_eq] at hq
                    exact hq
                  · intro i hi; simp only [List.mem_cons, List.not_mem_nil, or_false] at hi; rcases hi with rfl | rfl; exact Or.inr (by kernel_rfl); exact Or.inl (fun g g' h => by simp only [h 9 (by decide)])
                  refine LinAll.cons (fun g => sl (m + 1) (g 10)) ?_ ?_ ?_
                  · intro g L a x hLi haft hS hK
                    have t131 := hK.new 7 2 _ 131 _ rfl rfl rfl (by kernel_rfl) (waits haft 7 (by kernel_rfl))
                    have t133 := hK.new 9 0 _ 133 _ rfl rfl rfl (by kernel_rfl) (waits haft 9 (by kernel_rfl))
                    (try dsimp only at t131 t133)
                    have hLl := waits haft 7 (by kernel_rfl)
                    have hLb := waits haft 9 (by kernel_rfl)
                    have his : L 12 = false := by
                      cases e : L 12
                      · rfl
                      · rw [hS.d3 e] at hLi; cases hLi
                    have hrow := row_own HW.out (fun k hk => hS.kp k (HW.out.lt k hk).2 (fun e => by rw [hLi] at e; cases e) (fun e => by rw [his] at e; cases e))
                    have hsb := hS.sb hLb hLi
                    refine go_in (wanted_all rfl) ?_
                    intro K hk
                    refine wp_append_at _ (.tmp 131) (.tmp 133) 23 rfl w.heap.size 35 ti _ 3 48 underS HI0.out.1 HI0.out.2.1 HI0.out.2.2.1 HI0.out.2.2.2 rfl (by decide) _ m _ (eval_tmp t131) hrow ⟨g 9, 0, none⟩ 1 1 [.string ⟨#[]⟩, .bool true, .slice av nv cv] (eval_tmp t133) rfl (fun j u hj => by
                        have e : (⟨g 9, 0, none⟩ : Addr).add j = ⟨g 9, j, none⟩ := by simp [Addr.add]; try (intro hq; exact hq.symm)
                        rw [e]; exact cell_of hsb.1 j (by simpa using hj)) (by intro u hu; simp at hu; rcases hu with rfl | rfl | rfl <;> rfl) (by unfold maxLen; omega) (by omega) (by have := hS.siz; omega) ?_
                    intro v' y hown hgrow hat
                    obtain ⟨p, rfl⟩ := sl_own hown (by omega)
                    have hq := hk.out (updG g 10 p) y (updG_al (by rfl)) (hS.app hLl hLb hLi (by decide) HBV.out hgrow hown hat)
                    dsimp only at hq
                    rw [updG_eq] at hq
                    exact hq
                  · intro i hi; simp only [List.mem_cons, List.not_mem_nil, or_false] at hi; rcases hi with rfl | rfl; exact Or.inl (fun g g' h => by simp only [h 10 (by decide)]); exact Or.inr (by kernel_rfl)
                  refine' LinAll.cons _ ?_ ?_ ?_
                  rotate_left 1
                  · intro g L a x hLi haft hS hK
                    have t124 := hK.new 0 10 _ 124 _ rfl rfl rfl (by kernel_rfl) (waits haft 0 (by kernel_rfl))
                    have t126 := hK.new 2 8 _ 126 _ rfl rfl rfl (by kernel_rfl) (waits haft 2 (by kernel_rfl))
                    (try dsimp only at t124 t126)
                    refine go_in (wanted_all rfl) ?_
                    intro K hk
                    clear haft hK hLi
                    go_simp
                    exact hk.out g x (fun _ _ => rfl) (hS.go rfl)
                  · intro i hi; exact Or.inl (fun _ _ _ => rfl)
                  refine LinAll.cons (fun _ => undef) ?_ ?_ ?_
                  · intro g L a x hLi haft hS hK
                    have t134 := hK.new 10 1 _ 134 _ rfl rfl rfl (by kernel_rfl) (waits haft 10 (by kernel_rfl))
                    have t135 := hK.new 11 0 _ 135 _ rfl rfl rfl (by kernel_rfl) (waits haft 11 (by kernel_rfl))
                    (try dsimp only at t134 t135)
                    have hLa := waits haft 10 (by kernel_rfl)
                    have hh := hS.kp R hRl (fun _ => hRv) (fun e => by rw [hLi] at e; cases e)
                    have c1 : x.cell? ⟨R, M, none⟩ = some (.slice af m cf) := (World.cell?_of_block (a := ⟨R, _, none⟩) hh).trans r1
                    have f1 : x.frozen? ⟨R, M, none⟩ = false := by simp [World.frozen?, hh, HHD.out]
                    have hnew := hS.store hLa hLi (by decide) HVR.out hRl HHD.out
                    unfold sl at t134
                    refine go_in (wanted_all rfl) ?_
                    intro K hk
                    clear haft hK hLi hLa hh
                    go_simp
                    exact hk.out g _ (fun _ _ => rfl) hnew
                  · intro i hi; exact Or.inl (fun _ _ _ => rfl)
                  refine LinAll.nil fun g x hS => ?_
                  subst ha0
                  simp only [Act.put, List.setIfInBounds_toArray, List.set_cons_zero, List.set_cons_succ]
                  clear o5 o8 o9
                  have HS : Hid _ := hS
                  clear hS
                  go_wp2_with fail
                  have HFE : Hid (ecs ((.mk ⟨#[]⟩ true f.ks, f.v) : En) = [.string ⟨#[]⟩, .bool true, .slice av nv cv]) := by
                    unfold Hid
                    show [.string ⟨#[]⟩, .bool true, f.v] = _
                    rw [HFV0.out]
                  obtain ⟨v', hz, hbz⟩ := HDP.out.done (e := (.mk ⟨#[]⟩ true f.ks, f.v)) HM.out HMM.out HFV.out HS.out rfl rfl (by rw [HFE.out]; rfl) HRW.out hsw HBP.out (by omega)
                  exact ⟨⟨k + 1, by first | rfl | trivial, ⟨⟨_, _, hz, ⟨by simp, by have := HBD.out.deep; simp at this ⊢; omega, fun g hg => by
                    rcases List.mem_append.1 hg with hg | hg
                    · have := HBD.out.many g (by simp [hg]); omega
                    · rw [List.mem_singleton.1 hg]
                      have := HBD.out.many p (by simp)
                      exact ⟨by show (p.es ++ [_]).length ≤ k + 1; rw [List.length_append]; show p.es.length + 1 ≤ k + 1; omega, by show p.pl ≤ k + 1; omega⟩⟩, by
                    rw [HF2.out, stOf_snoc, stOf_snoc]
                    simp only [addS]
                    congr 3
                    simp [Fm.ks]⟩, by omega, HBL.out.trans ((HBZ.out.mono hsz).trans hbz)⟩⟩, by simp [intOf]; omega⟩
                · obtain ⟨wz, hwz⟩ : ∃ wz, wz = (wy.alloc (.cells #[.bool true] 4)).drew.drew := ⟨_, rfl⟩
                  rw [← hwz]
                  have hbz : Below wr.heap.size wr wz := by
                    rw [hwz, HWY.out]
                    exact ((((Below.refl _ _).alloc (Nat.le_refl _) _).alloc (by simp) _).trans (drew_below _ _)).trans (drew_below _ _)
                  have hbx : wz.heap[wr.heap.size]? = some (.cells #[.string ⟨#[]⟩, .bool true, .slice av nv cv] 35 (0, 0)) := by
                    rw [hwz, HWY.out]
                    exact (heap_alloc_old _ _ (by simp)).trans (heap_alloc_new _ _)
                  have hsz2 : wr.heap.size < wz.heap.size := (Array.getElem?_eq_some_iff.1 hbx).1
                  have hsw : w.heap.size ≤ wz.heap.size := by omega
                  obtain ⟨hP, hRow⟩ := (HDZ.out.below hbz).pop HM.out
                  obtain ⟨cr, hB0⟩ := hP.b0 HM.out
                  have HBP : Hid (w.heap.size ≤ R ∧ R < wz.heap.size ∧ cap ≤ maxLen ∧ wz.heap[R]? = some (.cells cr 23 (0, 0)) ∧ cr.size = cap * 1 ∧ cr.toList.take ((M + 1) * 1) = (hs ++ [p]).flatMap csD ∧ wz.cell? ⟨R, M, none⟩ = some p.v) := hB0
                  have HDP : Hid _ := hP
                  have HRW : Hid _ := hRow
                  have HBZ : Hid _ := hbz
                  have b0 := cell_of hbx 0 rfl
                  have b1 := cell_of hbx 1 rfl
                  have b2 := cell_of hbx 2 rfl
                  have hbl := hsz2
                  have hbR : wr.heap.size ≠ R := by have := HB0.out.2.1; omega
                  have hpm : p.es.length ≤ k := (HBD.out.many p (by simp)).1
                  have hpo : ∀ b, p.v.ownBlock = some b → b < wr.heap.size := fun b hb => ((HDZ.out.os.own p (by simp)).lt b hb).2
                  clear hwz hbx hP hRow hbz hB0
                  have r1 := HBP.out.2.2.2.2.2.2
                  have hRl := HBP.out.2.1
                  obtain ⟨af, cf, hfv⟩ := fslice HDP.out.os (f := p) (by simp)
                  have hown := HDP.out.os.own p (by simp)
                  have hfR := (ownBlock_ne HDP.out.os).1
                  obtain ⟨m, hm⟩ : ∃ m, m = p.es.length := ⟨_, rfl⟩
                  have HMM : Hid _ := hm
                  rw [← hm] at hfv
                  have HFV : Hid _ := hfv
                  rw [hfv] at r1 hfR hown
                  rw [← hm] at hown
                  have HW : Hid (wz.ownsRow w.heap.size 35 3 (.slice af m cf) m (p.es.flatMap ecs)) := hown
                  have HBV : Hid (∀ k, (Value.slice af m cf).ownBlock = some k → k < wz.heap.size) := fun k hk => (hown.lt k hk).2
                  have HVR : Hid ((Value.slice af m cf).ownBlock ≠ some R) := hfR
                  have hRv : some R ≠ (Value.slice af m cf).ownBlock := fun e => hfR e.symm
                  have HOL : Hid ((p.es.flatMap ecs).length = m * 3) := by rw [hm]; exact ecs_len _
                  have HHD : Hid (wz.heap[R]? = some (.cells cr 23 (0, 0))) := HBP.out.2.2.2.1
                  have hmr : m ≤ 100000 := by have := HMM.out; omega
                  have hmI : (m : Int) < (m : Int) + 1 := by omega
                  clear hfv hown hfR hm
                  have hbv1 : some wr.heap.size ≠ (Value.slice af m cf).ownBlock := by
                    rw [← HFV.out]
                    intro e
                    have := hpo _ e.symm
                    omega
                  have hNI : (M : Int) < (M : Int) + 1 := by omega
                  have hwM : IntKind.i64.wrap (M : Int) = (M : Int) := by rw [IntKind.wrap_i64]; omega
                  refine wp_named fun a0 ha0 => ?_
                  have o5 := old_at ha0 (t := 5) rfl
                  have o8 := old_at ha0 (t := 8) rfl
                  have o9 := old_at ha0 (t := 9) rfl
                  refine wp_region_lin (S := BSt wz w.heap.size 35 3 (.slice af m cf) m (p.es.flatMap ecs) [.string ⟨#[]⟩, .bool false, .slice none 0 0] [.string ⟨#[]⟩, .bool true, .slice av nv cv] R M cr 23 7 10 11 99 13) [10, 11] (fun _ => 0) (by kernel_rfl) (by kernel_rfl) (by rw [← ha0]; kernel_rfl) (BSt.start (x := wz.drew) ⟨rfl, rfl, rfl, rfl⟩) ?_
                  refine' LinAll.cons _ ?_ ?_ ?_
                  rotate_left 1
                  · intro g L a x hLi haft hS hK
                    have t5 := (hK.old 5 (by kernel_rfl)).trans o5
                    (try dsimp only at t5)
                    refine go_in (wanted_all rfl) ?_
                    intro K hk
                    clear haft hK hLi
                    go_simp
                    exact hk.out g x (fun _ _ => rfl) (hS.go rfl)
                  · intro i hi; exact Or.inl (fun _ _ _ => rfl)
                  refine' LinAll.cons _ ?_ ?_ ?_
                  rotate_left 1
                  · intro g L a x hLi haft hS hK
                    have t8 := (hK.old 8 (by kernel_rfl)).trans o8
                    (try dsimp only at t8)
                    refine go_in (wanted_all rfl) ?_
                    intro K hk
                    clear haft hK hLi
                    go_simp
                    exact hk.out g x (fun _ _ => rfl) (hS.go rfl)
                  · intro i hi; exact Or.inl (fun _ _ _ => rfl)
                  refine' LinAll.cons _ ?_ ?_ ?_
                  rotate_left 1
                  · intro g L a x hLi haft hS hK
                    have t111 := hK.new 1 0 _ 111 _ rfl rfl rfl (by kernel_rfl) (waits haft 1 (by kernel_rfl))
                    (try dsimp only at t111)
                    refine go_in (wanted_all rfl) ?_
                    intro K hk
                    clear haft hK hLi
                    go_simp
                    exact hk.out g x (fun _ _ => rfl) (hS.go rfl)
                  · intro i hi; exact Or.inl (fun _ _ _ => rfl)
                  refine' LinAll.cons _ ?_ ?_ ?_
                  rotate_left 1
                  · intro g L a x hLi haft hS hK
                    have t5 := (hK.old 5 (by kernel_rfl)).trans o5
                    (try dsimp only at t5)
                    refine go_in (wanted_all rfl) ?_
                    intro K hk
                    clear haft hK hLi
                    go_simp
                    exact hk.out g x (fun _ _ => rfl) (hS.go rfl)
                  · intro i hi; exact Or.inl (fun _ _ _ => rfl)
                  refine' LinAll.cons _ ?_ ?_ ?_
                  rotate_left 1
                  · intro g L a x hLi haft hS hK
                    have t8 := (hK.old 8 (by kernel_rfl)).trans o8
                    (try dsimp only at t8)
                    refine go_in (wanted_all rfl) ?_
                    intro K hk
                    clear haft hK hLi
                    go_simp
                    exact hk.out g x (fun _ _ => rfl) (hS.go rfl)
                  · intro i hi; exact Or.inl (fun _ _ _ => rfl)
                  refine' LinAll.cons _ ?_ ?_ ?_
                  rotate_left 1
                  · intro g L a x hLi haft hS hK
                    have t114 := hK.new 4 0 _ 114 _ rfl rfl rfl (by kernel_rfl) (waits haft 4 (by kernel_rfl))
                    (try dsimp only at t114)
                    refine go_in (wanted_all rfl) ?_
                    intro K hk
                    clear haft hK hLi
                    go_simp
                    exact hk.out g x (fun _ _ => rfl) (hS.go rfl)
                  · intro i hi; exact Or.inl (fun _ _ _ => rfl)
                  refine' LinAll.cons _ ?_ ?_ ?_
                  rotate_left 1
                  · intro g L a x hLi haft hS hK
                    have t113 := hK.new 3 2 _ 113 _ rfl rfl rfl (by kernel_rfl) (waits haft 3 (by kernel_rfl))
                    have t115 := hK.new 5 0 _ 115 _ rfl rfl rfl (by kernel_rfl) (waits haft 5 (by kernel_rfl))
                    (try dsimp only at t113 t115)
                    refine go_in (wanted_all rfl) ?_
                    intro K hk
                    clear haft hK hLi
                    go_simp
                    exact hk.out g x (fun _ _ => rfl) (hS.go rfl)
                  · intro i hi; exact Or.inl (fun _ _ _ => rfl)
                  refine' LinAll.cons _ ?_ ?_ ?_
                  rotate_left 1
                  · intro g L a x hLi haft hS hK
                    have t116 := hK.new 6 0 _ 116 _ rfl rfl rfl (by kernel_rfl) (waits haft 6 (by kernel_rfl))
                    (try dsimp only at t116)
                    obtain ⟨na, ns⟩ := hS.noa hLi
                    have c1 : x.cell? ⟨R, M, none⟩ = some (.slice af m cf) := (World.cell?_of_block (a := ⟨R, _, none⟩) (hS.kp R hRl (fun _ => hRv) (fun e => by rw [ns] at e; cases e))).trans r1
                    clear na ns
                    refine go_in (wanted_all rfl) ?_
                    intro K hk
                    clear haft hK hLi
                    go_simp
                    exact hk.out g x (fun _ _ => rfl) (hS.go rfl)
                  · intro i hi; exact Or.inl (fun _ _ _ => rfl)
                  refine' LinAll.cons _ ?_ ?_ ?_
                  rotate_left 1
                  · intro g L a x hLi haft hS hK
                    have t9 := (hK.old 9 (by kernel_rfl)).trans o9
                    (try dsimp only at t9)
                    have hbq := hS.kp wr.heap.size hbl (fun _ => hbv1) (fun _ => hbR)
                    have d0 := (World.cell?_of_block (a := ⟨wr.heap.size, 0, none⟩) hbq).trans b0
                    have d1 := (World.cell?_of_block (a := ⟨wr.heap.size, 1, none⟩) hbq).trans b1
                    have d2 := (World.cell?_of_block (a := ⟨wr.heap.size, 2, none⟩) hbq).trans b2
                    clear hbq
                    refine go_in (wanted_all rfl) ?_
                    intro K hk
                    clear haft hK hLi
                    go_simp
                    exact hk.out g x (fun _ _ => rfl) (hS.go rfl)
                  · intro i hi; exact Or.inl (fun _ _ _ => rfl)
                  refine' LinAll.cons _ ?_ ?_ ?_
                  rotate_left 1
                  · intro g L a x hLi haft hS hK
                    have t117 := hK.new 7 1 _ 117 _ rfl rfl rfl (by kernel_rfl) (waits haft 7 (by kernel_rfl))
                    (try dsimp only at t117)
                    refine go_in (wanted_all rfl) ?_
                    intro K hk
                    clear haft hK hLi
                    go_simp
                    exact hk.out g x (fun _ _ => rfl) (hS.go rfl)
                  · intro i hi; exact Or.inl (fun _ _ _ => rfl)
                  refine LinAll.cons (fun g => .slice (some ⟨g 10, 0, none⟩) 1 1) ?_ ?_ ?_
                  · intro g L a x hLi haft hS hK
                    refine go_in (wanted_all rfl) ?_
                    intro K hk
                    clear haft hK
                    go_simp
                    have hq := hk.out (updG g 10 x.heap.size) _ (updG_al (by rfl)) (hS.built hLi (by decide))
                    dsimp only at hq
                    rw [updG_eq] at hq
                    exact hq
                  · intro i hi; simp only [List.mem_cons, List.not_mem_nil, or_false] at hi; rcases hi with rfl | rfl; exact Or.inr (by kernel_rfl); exact Or.inl (fun g g' h => by simp only [h 10 (by decide)])
                  refine LinAll.cons (fun g => sl (m + 1) (g 11)) ?_ ?_ ?_
                  · intro g L a x hLi haft hS hK
                    have t117 := hK.new 7 3 _ 117 _ rfl rfl rfl (by kernel_rfl) (waits haft 7 (by kernel_rfl))
                    have t120 := hK.new 10 0 _ 120 _ rfl rfl rfl (by kernel_rfl) (waits haft 10 (by kernel_rfl))
                    (try dsimp only at t117 t120)
                    have hLl := waits haft 7 (by kernel_rfl)
                    have hLb := waits haft 10 (by kernel_rfl)
                    have his : L 13 = false := by
                      cases e : L 13
                      · rfl
                      · rw [hS.d3 e] at hLi; cases hLi
                    have hrow := row_own HW.out (fun k hk => hS.kp k (HW.out.lt k hk).2 (fun e => by rw [hLi] at e; cases e) (fun e => by rw [his] at e; cases e))
                    have hsb := hS.sb hLb hLi
                    refine go_in (wanted_all rfl) ?_
                    intro K hk
                    refine wp_append_at _ (.tmp 117) (.tmp 120) 23 rfl w.heap.size 35 ti _ 3 48 underS HI0.out.1 HI0.out.2.1 HI0.out.2.2.1 HI0.out.2.2.2 rfl (by decide) _ m _ (eval_tmp t117) hrow ⟨g 10, 0, none⟩ 1 1 [.string ⟨#[]⟩, .bool false, .slice none 0 0] (eval_tmp t120) rfl (fun j u hj => by
                        have e : (⟨g 10, 0, none⟩ : Addr).add j = ⟨g 10, j, none⟩ := by simp [Addr.add]; try (intro hq; exact hq.symm)
                        rw [e]; exact cell_of hsb.1 j (by simpa using hj)) (by intro u hu; simp at hu; rcases hu with rfl | rfl | rfl <;> rfl) (by unfold maxLen; omega) (by omega) (by have := hS.siz; omega) ?_
                    intro v' y hown hgrow hat
                    obtain ⟨p, rfl⟩ := sl_own hown (by omega)
                    have hq := hk.out (updG g 11 p) y (updG_al (by rfl)) (hS.app hLl hLb hLi (by decide) HBV.out hgrow hown hat)
                    dsimp only at hq
                    rw [updG_eq] at hq
                    exact hq
                  · intro i hi; simp only [List.mem_cons, List.not_mem_nil, or_false] at hi; rcases hi with rfl | rfl; exact Or.inl (fun g g' h => by simp only [h 11 (by decide)]); exact Or.inr (by kernel_rfl)
                  refine' LinAll.cons _ ?_ ?_ ?_
                  rotate_left 1
                  · intro g L a x hLi haft hS hK
                    have t110 := hK.new 0 11 _ 110 _ rfl rfl rfl (by kernel_rfl) (waits haft 0 (by kernel_rfl))
                    have t112 := hK.new 2 9 _ 112 _ rfl rfl rfl (by kernel_rfl) (waits haft 2 (by kernel_rfl))
                    (try dsimp only at t110 t112)
                    refine go_in (wanted_all rfl) ?_
                    intro K hk
                    clear haft hK hLi
                    go_simp
                    exact hk.out g x (fun _ _ => rfl) (hS.go rfl)
                  · intro i hi; exact Or.inl (fun _ _ _ => rfl)
                  refine LinAll.cons (fun _ => undef) ?_ ?_ ?_
                  · intro g L a x hLi haft hS hK
                    have t121 := hK.new 11 1 _ 121 _ rfl rfl rfl (by kernel_rfl) (waits haft 11 (by kernel_rfl))
                    have t122 := hK.new 12 0 _ 122 _ rfl rfl rfl (by kernel_rfl) (waits haft 12 (by kernel_rfl))
                    (try dsimp only at t121 t122)
                    have hLa := waits haft 11 (by kernel_rfl)
                    have hh := hS.kp R hRl (fun _ => hRv) (fun e => by rw [hLi] at e; cases e)
                    have c1 : x.cell? ⟨R, M, none⟩ = some (.slice af m cf) := (World.cell?_of_block (a := ⟨R, _, none⟩) hh).trans r1
                    have f1 : x.frozen? ⟨R, M, none⟩ = false := by simp [World.frozen?, hh, HHD.out]
                    have hnew := hS.store hLa hLi (by decide) HVR.out hRl HHD.out
                    unfold sl at t121
                    refine go_in (wanted_all rfl) ?_
                    intro K hk
                    clear haft hK hLi hLa hh
                    go_simp
                    exact hk.out g _ (fun _ _ => rfl) hnew
                  · intro i hi; exact Or.inl (fun _ _ _ => rfl)
                  refine LinAll.nil fun g x hS => ?_
                  subst ha0
                  simp only [Act.put, List.setIfInBounds_toArray, List.set_cons_zero, List.set_cons_succ]
                  clear o5 o8 o9
                  obtain ⟨z0, z1, z2, y0, y1, y2, yf⟩ := hS.cells rfl
                  have HS : Hid _ := hS.elem rfl rfl (by decide) HOL.out HVR.out hRl
                  clear hS
                  unfold sl
                  go_wp2_with fail
                  have HFE : Hid (ecs ((.mk ⟨#[]⟩ true f.ks, f.v) : En) = [.string ⟨#[]⟩, .bool true, .slice av nv cv]) := by
                    unfold Hid
                    show [.string ⟨#[]⟩, .bool true, f.v] = _
                    rw [HFV0.out]
                  obtain ⟨v', hz, hbz⟩ := HDP.out.done (e := (.mk ⟨#[]⟩ true f.ks, f.v)) HM.out HMM.out HFV.out HS.out rfl rfl (by rw [HFE.out]; rfl) HRW.out hsw HBP.out (by omega)
                  exact ⟨⟨k + 1, by first | rfl | trivial, ⟨⟨_, _, hz, ⟨by simp, by have := HBD.out.deep; simp at this ⊢; omega, fun g hg => by
                    rcases List.mem_append.1 hg with hg | hg
                    · have := HBD.out.many g (by simp [hg]); omega
                    · rw [List.mem_singleton.1 hg]
                      have := HBD.out.many p (by simp)
                      exact ⟨by show (p.es ++ [_]).length ≤ k + 1; rw [List.length_append]; show p.es.length + 1 ≤ k + 1; omega, by show p.pl ≤ k + 1; omega⟩⟩, by
                    rw [HF2.out, stOf_snoc, stOf_snoc]
                    simp only [addS]
                    congr 3
                    simp [Fm.ks]⟩, by omega, HBL.out.trans ((HBZ.out.mono hsz).trans hbz)⟩⟩, by simp [intOf]; omega⟩
            · have hq41 : (((t[k]'hlt).toNat : Int) == 41) = false := by rw [← HC.out]; exact u8_ne (by decide) h41
              have H41 : Hid _ := h41
              clear h41
              obtain ⟨n, hn⟩ : ∃ n, n = wsz (t.data.toList.drop k) := ⟨_, rfl⟩
              have HRW : Hid (∀ wx, Calls Tryd.prog 28 #[.string t, .int .i64 (k : Int)] wx fun e w' => ∃ x : Int, e = .returned (.tuple #[.int .i64 x, .bool (decide (0 < n))]) ∧ (0 < n → x = ((k + n : Nat) : Int)) ∧ w' = wx) := fun wx => by rw [hn]; exact rword_any hlt ht wx
              have HNO : Hid (n = 0 → Vt t s0 = ([], k, 22)) := fun h0 => HV.out.symm.trans (Vt_noword hlt (by rw [← HC.out]; exact HK.out) (by rw [← HC.out]; exact H59.out) (by rw [← HC.out]; exact H40.out) (by rw [← HC.out]; exact H41.out) (by rw [← hn]; exact h0))
              have HYE : Hid (0 < n → k + n ≤ t.size ∧ Vt t s0 = Vt t ⟨k + n, addS (wordS (cutL t k (k + n))) (stOf (gs ++ [f])), .no⟩) := fun h0 => by
                obtain ⟨e1, e2⟩ := Vt_aword (st := stOf (gs ++ [f])) hlt hn.symm h0
                exact ⟨e1, HV.out.symm.trans e2⟩
              clear hn
              by_cases h0 : n = 0
              · subst h0
                have HF2 : Hid (Vt t s0 = ([], k, 22)) := HNO.out rfl
                have HRX : Hid (∀ wx, Calls Tryd.prog 28 #[.string t, .int .i64 (k : Int)] wx fun e w' => ∃ x : Int, e = .returned (.tuple #[.int .i64 x, .bool false]) ∧ w' = wx) := fun wx => (HRW.out wx).mono (by rintro ev w1 ⟨x, rfl, -, rfl⟩; exact ⟨x, rfl, rfl⟩)
                clear HRW HNO HYE
                go_wp2_with fail
                refine Calls.mono (HBK.out _) ?_
                rintro ev w1 ⟨rfl, hw1⟩
                rw [hw1]
                clear hw1 w1
                go_wp2_with fail
                refine Calls.mono (HRX.out _) ?_
                rintro ev w1 ⟨x, rfl, hw1⟩
                rw [hw1]
                clear hw1 w1
                go_wp2_with fail
                go_ret3
                exact ⟨.slice none 0 0, by rw [HF2.out]; first | rfl | trivial, ⟨fun _ => False, by rw [HF2.out]; exact .nil _ _, fun _ h => h.elim⟩, HBL.out⟩
              · have hn0 : 0 < n := by omega
                obtain ⟨E, hE⟩ : ∃ E, E = k + n := ⟨_, rfl⟩
                have hy := HYE.out hn0
                rw [← hE] at hy
                have hkE : k < E := by omega
                have hEt := hy.1
                have HF2 : Hid _ := hy.2
                have hkI : (k : Int) ≤ (E : Int) := by omega
                have hEI : (E : Int) ≤ (t.size : Int) := by omega
                have HRX : Hid (∀ wx, Calls Tryd.prog 28 #[.string t, .int .i64 (k : Int)] wx fun e w' => e = .returned (.tuple #[.int .i64 (E : Int), .bool true]) ∧ w' = wx) := fun wx => (HRW.out wx).mono (by
                  rintro ev w1 ⟨x, rfl, hx, rfl⟩
                  refine ⟨?_, rfl⟩
                  rw [hx hn0, hE, show decide (0 < n) = true by simp; omega])
                have HE : Hid _ := hE
                clear HRW HNO HYE hy hE h0
                have HXC : Hid (t.extract k E = ⟨(cutL t k E).toArray⟩) := ext_cut hEt
                go_wp2_with fail
                refine Calls.mono (HBK.out _) ?_
                rintro ev w1 ⟨rfl, hw1⟩
                rw [hw1]
                clear hw1 w1
                go_wp2_with fail
                refine Calls.mono (HRX.out _) ?_
                rintro ev w1 ⟨rfl, hw1⟩
                rw [hw1]
                clear hw1 w1
                have r1 := HB0.out.2.2.2.2.2.2
                have hRl := HB0.out.2.1
                obtain ⟨af, cf, hfv⟩ := fslice HDZ.out.os (f := f) (by simp)
                have hown := HDZ.out.os.own f (by simp)
                have hfR := (ownBlock_ne HDZ.out.os).1
                obtain ⟨m, hm⟩ : ∃ m, m = f.es.length := ⟨_, rfl⟩
                have HMM : Hid _ := hm
                rw [← hm] at hfv
                have HFV : Hid _ := hfv
                rw [hfv] at r1 hfR hown
                rw [← hm] at hown
                have HW : Hid (wr.ownsRow w.heap.size 35 3 (.slice af m cf) m (f.es.flatMap ecs)) := hown
                have HBV : Hid (∀ k, (Value.slice af m cf).ownBlock = some k → k < wr.heap.size) := fun k hk => (hown.lt k hk).2
                have HVR : Hid ((Value.slice af m cf).ownBlock ≠ some R) := hfR
                have hRv : some R ≠ (Value.slice af m cf).ownBlock := fun e => hfR e.symm
                have HOL : Hid ((f.es.flatMap ecs).length = m * 3) := by rw [hm]; exact ecs_len _
                have HHD : Hid (wr.heap[R]? = some (.cells cr 23 (0, 0))) := HB0.out.2.2.2.1
                have hmr : m ≤ 100000 := by have := HMM.out; omega
                have hmI : (m : Int) < (m : Int) + 1 := by omega
                clear hfv hown hfR hm
                have hNI : (N : Int) < (N : Int) + 1 := by omega
                go_wp2_with fail
                refine wp_named fun a0 ha0 => ?_
                have o0 := old_at ha0 (t := 0) rfl
                have o5 := old_at ha0 (t := 5) rfl
                have o7 := old_at ha0 (t := 7) rfl
                have o8 := old_at ha0 (t := 8) rfl
                have o10 := old_at ha0 (t := 10) rfl
                refine wp_region_lin (S := BSt wr w.heap.size 35 3 (.slice af m cf) m (f.es.flatMap ecs) [.string ⟨#[]⟩, .bool false, .slice none 0 0] [.string (t.extract k E), .bool false, .slice none 0 0] R N cr 23 3 10 11 13 15) [10, 11] (fun _ => 0) (by kernel_rfl) (by kernel_rfl) (by rw [← ha0]; kernel_rfl) (BSt.start (x := wr.drew) ⟨rfl, rfl, rfl, rfl⟩) ?_
                refine' LinAll.cons _ ?_ ?_ ?_
                rotate_left 1
                · intro g L a x hLi haft hS hK
                  have t5 := (hK.old 5 (by kernel_rfl)).trans o5
                  (try dsimp only at t5)
                  refine go_in (wanted_all rfl) ?_
                  intro K hk
                  clear haft hK hLi
                  go_simp
                  exact hk.out g x (fun _ _ => rfl) (hS.go rfl)
                · intro i hi; exact Or.inl (fun _ _ _ => rfl)
                refine' LinAll.cons _ ?_ ?_ ?_
                rotate_left 1
                · intro g L a x hLi haft hS hK
                  have t8 := (hK.old 8 (by kernel_rfl)).trans o8
                  (try dsimp only at t8)
                  refine go_in (wanted_all rfl) ?_
                  intro K hk
                  clear haft hK hLi
                  go_simp
                  exact hk.out g x (fun _ _ => rfl) (hS.go rfl)
                · intro i hi; exact Or.inl (fun _ _ _ => rfl)
                refine' LinAll.cons _ ?_ ?_ ?_
                rotate_left 1
                · intro g L a x hLi haft hS hK
                  have t32 := hK.new 0 1 _ 32 _ rfl rfl rfl (by kernel_rfl) (waits haft 0 (by kernel_rfl))
                  have t33 := hK.new 1 0 _ 33 _ rfl rfl rfl (by kernel_rfl) (waits haft 1 (by kernel_rfl))
                  (try dsimp only at t32 t33)
                  refine go_in (wanted_all rfl) ?_
                  intro K hk
                  clear haft hK hLi
                  go_simp
                  exact hk.out g x (fun _ _ => rfl) (hS.go rfl)
                · intro i hi; exact Or.inl (fun _ _ _ => rfl)
                refine' LinAll.cons _ ?_ ?_ ?_
                rotate_left 1
                · intro g L a x hLi haft hS hK
                  have t34 := hK.new 2 0 _ 34 _ rfl rfl rfl (by kernel_rfl) (waits haft 2 (by kernel_rfl))
                  (try dsimp only at t34)
                  obtain ⟨na, ns⟩ := hS.noa hLi
                  have c1 : x.cell? ⟨R, N, none⟩ = some (.slice af m cf) := (World.cell?_of_block (a := ⟨R, _, none⟩) (hS.kp R hRl (fun _ => hRv) (fun e => by rw [ns] at e; cases e))).trans r1
                  clear na ns
                  refine go_in (wanted_all rfl) ?_
                  intro K hk
                  clear haft hK hLi
                  go_simp
                  exact hk.out g x (fun _ _ => rfl) (hS.go rfl)
                · intro i hi; exact Or.inl (fun _ _ _ => rfl)
                refine' LinAll.cons _ ?_ ?_ ?_
                rotate_left 1
                · intro g L a x hLi haft hS hK
                  have t0 := (hK.old 0 (by kernel_rfl)).trans o0
                  (try dsimp only at t0)
                  refine go_in (wanted_all rfl) ?_
                  intro K hk
                  clear haft hK hLi
                  go_simp
                  exact hk.out g x (fun _ _ => rfl) (hS.go rfl)
                · intro i hi; exact Or.inl (fun _ _ _ => rfl)
                refine' LinAll.cons _ ?_ ?_ ?_
                rotate_left 1
                · intro g L a x hLi haft hS hK
                  have t7 := (hK.old 7 (by kernel_rfl)).trans o7
                  (try dsimp only at t7)
                  refine go_in (wanted_all rfl) ?_
                  intro K hk
                  clear haft hK hLi
                  go_simp
                  exact hk.out g x (fun _ _ => rfl) (hS.go rfl)
                · intro i hi; exact Or.inl (fun _ _ _ => rfl)
                refine' LinAll.cons _ ?_ ?_ ?_
                rotate_left 1
                · intro g L a x hLi haft hS hK
                  have t10 := (hK.old 10 (by kernel_rfl)).trans o10
                  (try dsimp only at t10)
                  refine go_in (wanted_all rfl) ?_
                  intro K hk
                  clear haft hK hLi
                  go_simp
                  exact hk.out g x (fun _ _ => rfl) (hS.go rfl)
                · intro i hi; exact Or.inl (fun _ _ _ => rfl)
                refine' LinAll.cons _ ?_ ?_ ?_
                rotate_left 1
                · intro g L a x hLi haft hS hK
                  have t36 := hK.new 4 2 _ 36 _ rfl rfl rfl (by kernel_rfl) (waits haft 4 (by kernel_rfl))
                  have t37 := hK.new 5 1 _ 37 _ rfl rfl rfl (by kernel_rfl) (waits haft 5 (by kernel_rfl))
                  have t38 := hK.new 6 0 _ 38 _ rfl rfl rfl (by kernel_rfl) (waits haft 6 (by kernel_rfl))
                  (try dsimp only at t36 t37 t38)
                  refine go_in (wanted_all rfl) ?_
                  intro K hk
                  clear haft hK hLi
                  go_simp
                  exact hk.out g x (fun _ _ => rfl) (hS.go rfl)
                · intro i hi; exact Or.inl (fun _ _ _ => rfl)
                refine' LinAll.cons _ ?_ ?_ ?_
                rotate_left 1
                · intro g L a x hLi haft hS hK
                  have t39 := hK.new 7 0 _ 39 _ rfl rfl rfl (by kernel_rfl) (waits haft 7 (by kernel_rfl))
                  (try dsimp only at t39)
                  refine go_in (wanted_all rfl) ?_
                  intro K hk
                  clear haft hK hLi
                  go_simp
                  exact hk.out g x (fun _ _ => rfl) (hS.go rfl)
                · intro i hi; exact Or.inl (fun _ _ _ => rfl)
                refine' LinAll.cons _ ?_ ?_ ?_
                rotate_left 1
                · intro g L a x hLi haft hS hK
                  have t35 := hK.new 3 5 _ 35 _ rfl rfl rfl (by kernel_rfl) (waits haft 3 (by kernel_rfl))
                  (try dsimp only at t35)
                  refine go_in (wanted_all rfl) ?_
                  intro K hk
                  clear haft hK hLi
                  go_simp
                  exact hk.out g x (fun _ _ => rfl) (hS.go rfl)
                · intro i hi; exact Or.inl (fun _ _ _ => rfl)
                refine LinAll.cons (fun g => .slice (some ⟨g 10, 0, none⟩) 1 1) ?_ ?_ ?_
                · intro g L a x hLi haft hS hK
                  refine go_in (wanted_all rfl) ?_
                  intro K hk
                  clear haft hK
                  go_simp
                  have hq := hk.out (updG g 10 x.heap.size) _ (updG_al (by rfl)) (hS.built hLi (by decide))
                  dsimp only at hq
                  rw [updG_eq] at hq
                  exact hq
                · intro i hi; simp only [List.mem_cons, List.not_mem_nil, or_false] at hi; rcases hi with rfl | rfl; exact Or.inr (by kernel_rfl); exact Or.inl (fun g g' h => by simp only [h 10 (by decide)])
                refine LinAll.cons (fun g => sl (m + 1) (g 11)) ?_ ?_ ?_
                · intro g L a x hLi haft hS hK
                  have t35 := hK.new 3 7 _ 35 _ rfl rfl rfl (by kernel_rfl) (waits haft 3 (by kernel_rfl))
                  have t42 := hK.new 10 0 _ 42 _ rfl rfl rfl (by kernel_rfl) (waits haft 10 (by kernel_rfl))
                  (try dsimp only at t35 t42)
                  have hLl := waits haft 3 (by kernel_rfl)
                  have hLb := waits haft 10 (by kernel_rfl)
                  have his : L 15 = false := by
                    cases e : L 15
                    · rfl
                    · rw [hS.d3 e] at hLi; cases hLi
                  have hrow := row_own HW.out (fun k hk => hS.kp k (HW.out.lt k hk).2 (fun e => by rw [hLi] at e; cases e) (fun e => by rw [his] at e; cases e))
                  have hsb := hS.sb hLb hLi
                  refine go_in (wanted_all rfl) ?_
                  intro K hk
                  refine wp_append_at _ (.tmp 35) (.tmp 42) 23 rfl w.heap.size 35 ti _ 3 48 underS HI0.out.1 HI0.out.2.1 HI0.out.2.2.1 HI0.out.2.2.2 rfl (by decide) _ m _ (eval_tmp t35) hrow ⟨g 10, 0, none⟩ 1 1 [.string ⟨#[]⟩, .bool false, .slice none 0 0] (eval_tmp t42) rfl (fun j u hj => by
                      have e : (⟨g 10, 0, none⟩ : Addr).add j = ⟨g 10, j, none⟩ := by simp [Addr.add]; try (intro hq; exact hq.symm)
                      rw [e]; exact cell_of hsb.1 j (by simpa using hj)) (by intro u hu; simp at hu; rcases hu with rfl | rfl | rfl <;> rfl) (by unfold maxLen; omega) (by omega) (by have := hS.siz; omega) ?_
                  intro v' y hown hgrow hat
                  obtain ⟨p, rfl⟩ := sl_own hown (by omega)
                  have hq := hk.out (updG g 11 p) y (updG_al (by rfl)) (hS.app hLl hLb hLi (by decide) HBV.out hgrow hown hat)
                  dsimp only at hq
                  rw [updG_eq] at hq
                  exact hq
                · intro i hi; simp only [List.mem_cons, List.not_mem_nil, or_false] at hi; rcases hi with rfl | rfl; exact Or.inl (fun g g' h => by simp only [h 11 (by decide)]); exact Or.inr (by kernel_rfl)
                refine LinAll.cons (fun g => .pointer (some ⟨g 11 / 2 ^ 64, m * 3, none⟩)) ?_ ?_ ?_
                · intro g L a x hLi haft hS hK
                  have t41 := hK.new 9 2 _ 41 _ rfl rfl rfl (by kernel_rfl) (waits haft 9 (by kernel_rfl))
                  have t43 := hK.new 11 0 _ 43 _ rfl rfl rfl (by kernel_rfl) (waits haft 11 (by kernel_rfl))
                  (try dsimp only at t41 t43)
                  unfold sl at t43
                  refine go_in (wanted_all rfl) ?_
                  intro K hk
                  clear haft hK hLi
                  go_simp
                  exact hk.out g x (fun _ _ => rfl) (hS.go rfl)
                · intro i hi; simp only [List.mem_cons, List.not_mem_nil, or_false] at hi; rcases hi with rfl | rfl; exact Or.inl (fun g g' h => by simp only [h 11 (by decide)]); exact Or.inr (by kernel_rfl)
                refine LinAll.cons (fun _ => undef) ?_ ?_ ?_
                · intro g L a x hLi haft hS hK
                  have t40 := hK.new 8 4 _ 40 _ rfl rfl rfl (by kernel_rfl) (waits haft 8 (by kernel_rfl))
                  have t44 := hK.new 12 0 _ 44 _ rfl rfl rfl (by kernel_rfl) (waits haft 12 (by kernel_rfl))
                  (try dsimp only at t40 t44)
                  have hLa := waits haft 11 (by kernel_rfl)
                  obtain ⟨z0, z1, z2, y0, y1, y2, yf⟩ := hS.cells hLa
                  have hnew := hS.elem hLa hLi (by decide) HOL.out HVR.out hRl
                  refine go_in (wanted_all rfl) ?_
                  intro K hk
                  clear haft hK hLi hLa
                  go_simp
                  exact hk.out g _ (fun _ _ => rfl) hnew
                · intro i hi; exact Or.inl (fun _ _ _ => rfl)
                refine' LinAll.cons _ ?_ ?_ ?_
                rotate_left 1
                · intro g L a x hLi haft hS hK
                  have t32 := hK.new 0 13 _ 32 _ rfl rfl rfl (by kernel_rfl) (waits haft 0 (by kernel_rfl))
                  have t33 := hK.new 1 12 _ 33 _ rfl rfl rfl (by kernel_rfl) (waits haft 1 (by kernel_rfl))
                  (try dsimp only at t32 t33)
                  refine go_in (wanted_all rfl) ?_
                  intro K hk
                  clear haft hK hLi
                  go_simp
                  exact hk.out g x (fun _ _ => rfl) (hS.go rfl)
                · intro i hi; exact Or.inl (fun _ _ _ => rfl)
                refine LinAll.cons (fun _ => undef) ?_ ?_ ?_
                · intro g L a x hLi haft hS hK
                  have t43 := hK.new 11 3 _ 43 _ rfl rfl rfl (by kernel_rfl) (waits haft 11 (by kernel_rfl))
                  have t45 := hK.new 14 0 _ 45 _ rfl rfl rfl (by kernel_rfl) (waits haft 14 (by kernel_rfl))
                  (try dsimp only at t43 t45)
                  have hLa := waits haft 11 (by kernel_rfl)
                  have hh := hS.kp R hRl (fun _ => hRv) (fun e => by rw [hLi] at e; cases e)
                  have c1 : x.cell? ⟨R, N, none⟩ = some (.slice af m cf) := (World.cell?_of_block (a := ⟨R, _, none⟩) hh).trans r1
                  have f1 : x.frozen? ⟨R, N, none⟩ = false := by simp [World.frozen?, hh, HHD.out]
                  have hnew := hS.store hLa hLi (by decide) HVR.out hRl HHD.out
                  unfold sl at t43
                  refine go_in (wanted_all rfl) ?_
                  intro K hk
                  clear haft hK hLi hLa hh
                  go_simp
                  exact hk.out g _ (fun _ _ => rfl) hnew
                · intro i hi; exact Or.inl (fun _ _ _ => rfl)
                refine LinAll.nil fun g x hS => ?_
                subst ha0
                simp only [Act.put, List.setIfInBounds_toArray, List.set_cons_zero, List.set_cons_succ]
                clear o0 o5 o7 o8 o10
                have HS : Hid _ := hS
                clear hS
                go_wp2_with fail
                obtain ⟨v', hz, hbz⟩ := HDZ.out.done (e := (wordS (cutL t k E), .slice none 0 0)) HN.out HMM.out HFV.out HS.out rfl rfl (by rw [HXC.out]; rfl) (.nil _ _) hsz HB0.out hcp
                exact ⟨⟨E, by first | rfl | trivial, ⟨⟨D, _, hz, ⟨by simp, by have := HBD.out.deep; simpa using this, fun g hg => by
                  rcases List.mem_append.1 hg with hg | hg
                  · have := HBD.out.many g (by simp [hg]); omega
                  · rw [List.mem_singleton.1 hg]
                    have := HBD.out.many f (by simp)
                    exact ⟨by show (f.es ++ [_]).length ≤ E; rw [List.length_append]; show f.es.length + 1 ≤ E; omega, by show f.pl ≤ E; omega⟩⟩, by
                  rw [HF2.out, stOf_snoc, stOf_snoc]
                  simp only [addS]
                  congr 3
                  simp [Fm.ks]⟩, hEt, HBL.out.trans hbz⟩⟩, by simp [intOf]; omega⟩
    · have hlI : (t.size : Int) ≤ (k : Int) := by omega
      have HF : Hid (Vt t s0 = finS ((f.pl, f.ks) :: stOf gs)) := by
        unfold Hid
        rw [← HV.out, Vt_end (show t.size ≤ k by omega), stOf_snoc]; rfl
      rcases hsp : gs with _ | ⟨g0, gr⟩
      · have hfo := HFO.out
        subst hfo
        subst hsp
        have hN0 : N = 0 := HN.out
        subst hN0
        have r1 := HB0.out.2.2.2.2.2.2
        obtain ⟨vf, vc, hfv⟩ := fslice HDZ.out.os (f := f) (by simp)
        rw [hfv] at r1
        have HFV : Hid _ := hfv
        clear hfv
        go_wp2_with fail
        go_ret3
        refine ⟨.slice vf f.es.length vc, ?_, ⟨fun b => D b ∨ f.v.ownBlock = some b, ?_, ?_⟩, HBL.out⟩
        · rw [HF.out]; rfl
        · rw [HF.out, ← HFV.out]
          exact row_of (HDZ.out.os.own f (by simp)) (fun b hb => Or.inr hb) (fun e he => (HDZ.out.os.kid f (by simp) e he).keep (fun _ _ => rfl) (fun _ hd => Or.inl hd))
        · intro b hb
          rcases hb with hb | hb
          · exact HDZ.out.os.done b hb
          · exact (HDZ.out.os.own f (by simp)).lt b hb
      · have hfo := HFO.out
        subst hfo
        obtain ⟨ga, hga, hgc, q1⟩ := HDZ.out.from (by rw [hsp]; simp) HN.out
        subst hga
        obtain ⟨M, hM⟩ : ∃ M, N = M + 1 := ⟨gr.length, by rw [HN.out, hsp]; rfl⟩
        subst hM
        have HF2 : Hid (Vt t s0 = ([], f.pl, 20)) := by
          unfold Hid
          rw [HF.out, hsp, show g0 :: gr = [g0] ++ gr from rfl]
          rcases List.eq_nil_or_concat gr with e | ⟨l, a, e⟩
          · subst e; rfl
          · rw [e, List.concat_eq_append, ← List.append_assoc, stOf_snoc]; rfl
        have q2 : wr.cell? ⟨ga, M, none⟩ = some (.int .i64 (f.pl : Int)) := q1
        have hMI : (M : Int) < ((M + 1 : Nat) : Int) := by omega
        have hM0 : (0 : Int) < ((M + 1 : Nat) : Int) := by omega
        clear q1 hsp
        go_wp2_with fail
        go_region
        all_goals
          go_wp2_with fail
          go_ret3
          exact ⟨.slice none 0 0, by rw [HF2.out]; first | rfl | trivial, ⟨fun _ => False, by rw [HF2.out]; exact .nil _ _, fun _ h => h.elim⟩, HBL.out.trans (drew_below _ _)⟩
end Go.Proofs.YtikdjloedeinhaaDoor
