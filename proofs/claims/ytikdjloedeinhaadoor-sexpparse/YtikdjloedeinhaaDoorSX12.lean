/- Contracts (sexp): a bracket closes. -/
import Derived.Test.YtikdjloedeinhaaDoorSX11
namespace Go.Proofs.YtikdjloedeinhaaDoor
open Go.RowKit
set_option linter.unusedSimpArgs false
set_option linter.unusedVariables false

/-- The last open list is taken away: it is done. -/
theorem Os.pop {x : World} {D : Nat → Prop} {B R n cap : Nat} {O : TypeId} {sz : Nat} {cs : Fm → List Value} {gs : List Fm} {f : Fm} (h : Os x D B (.slice (some ⟨R, 0, none⟩) (n + 1) cap) O sz cs (gs ++ [f])) (hcs : (gs.flatMap cs).length = gs.length * sz) (hn : n = gs.length) (hne : gs ≠ []) :
    Os x (fun b => D b ∨ f.v.ownBlock = some b) B (.slice (some ⟨R, 0, none⟩) n cap) O sz cs gs ∧ Row x (fun b => D b ∨ f.v.ownBlock = some b) f.ks f.v := by
  obtain ⟨hfR, hg⟩ := ownBlock_ne h
  have hfl : f ∈ gs ++ [f] := by simp
  have ha := h.apart
  rw [List.pairwise_cons, List.map_append, List.pairwise_append] at ha
  refine ⟨⟨?_, ?_, ?_, ?_, ?_, ?_⟩, ?_⟩
  · subst hn
    rcases h.row.2 with ⟨e, -⟩ | ⟨R', cap', cur, hv, hb, hgg, hc, hm, hs, htk⟩
    · cases e
    · injection hv with e1 e2 e3
      injection e1 with e1
      injection e1 with e1
      subst e1 e3
      refine ⟨hcs, Or.inr ⟨R, cap, cur, rfl, hb, hgg, ?_, hm, hs, ?_⟩⟩
      · have : (gs ++ [f]).length = gs.length + 1 := by simp
        omega
      · have h1 := congrArg (List.take (gs.length * sz)) htk
        rw [List.take_take, List.flatMap_append, List.take_append_of_le_length (by omega), ← hcs, List.take_length] at h1
        rw [← h1, ← hcs]
        congr 1
        have : (gs ++ [f]).length = gs.length + 1 := by simp
        rw [this, hcs, Nat.add_mul]
        omega
  · exact fun g hgg => h.own g (by simp [hgg])
  · exact fun g hgg e he => (h.kid g (by simp [hgg]) e he).keep (fun _ _ => rfl) (fun _ hd => Or.inl hd)
  · rw [List.pairwise_cons]
    exact ⟨fun a hm => ha.1 a (List.mem_append_left _ hm), ha.2.1⟩
  · intro b hb hd
    rcases hd with hd | hd
    · rcases List.mem_cons.1 hb with e | hb
      · exact h.live b (by rw [e]; simp [Value.ownBlock]) hd
      · exact h.live b (List.mem_cons_of_mem _ (by rw [List.map_append]; exact List.mem_append_left _ hb)) hd
    · rcases List.mem_cons.1 hb with e | hb
      · exact hfR (by rw [hd, e]; rfl)
      · obtain ⟨g, hgg, e⟩ := List.mem_map.1 hb
        exact (hg g hgg b e).1 hd
  · intro b hb
    rcases hb with hb | hb
    · exact h.done b hb
    · exact (h.own f hfl).lt b hb
  · exact row_of (h.own f hfl) (fun b hb => Or.inr hb) (fun e he => (h.kid f hfl e he).keep (fun _ _ => rfl) (fun _ hd => Or.inl hd))

set_option maxRecDepth 20000 in
set_option maxHeartbeats 12800000 in
theorem closeB_any {w : World} {D : Nat → Prop} {B p : Nat} {t : ByteArray} {k : Nat} {so : Value} {gs : List Fm} {f c : Fm} (h : Pz w D B p t k so (gs ++ [f] ++ [c])) (hB : B ≤ w.heap.size) (hk : k < t.size) (ht : t.size ≤ 65536) (hdeep : gs.length ≤ 500) (hroom : f.es.length ≤ 100000) :
    Calls Tryd.prog 53 #[.pointer (some ⟨p, 0, none⟩)] w fun ev w' => ev = .returned (.int .i64 0) ∧ (∃ so' D' v', Pz w' D' B p t (k + 1) so' (gs ++ [⟨f.pl, v', f.es ++ [(.mk ⟨#[]⟩ true c.ks, c.v)]⟩])) ∧ Below B w w' := by
  obtain ⟨R, cap, rfl, hBR, hRw, hcap⟩ := h.os.sl (by simp)
  have hlen : (gs ++ [f] ++ [c]).length = gs.length + 1 + 1 := by simp
  have hlen1 : (gs ++ [f]).length = gs.length + 1 := by simp
  rw [hlen] at h hcap
  obtain ⟨n, hn⟩ : ∃ n, n = gs.length + 1 := ⟨_, rfl⟩
  rw [← hn] at h hcap
  have H : Hid _ := h
  have c2 := h.c2
  obtain ⟨-, -, r1, rf⟩ := h.os.last
  rw [hlen1, ← hn] at r1
  obtain ⟨av, nv, cv, hcv⟩ : ∃ a n' c', c.v = .slice a n' c' := by
    rcases (h.os.own c (by simp)).2 with ⟨e1, e2⟩ | ⟨g, c', _, e1, -⟩
    · exact ⟨none, 0, 0, e1⟩
    · exact ⟨_, _, _, e1⟩
  rw [hcv] at r1
  have HCV : Hid _ := hcv
  have HIN : Hid (Calls Tryd.prog 39 #[.pointer (some ⟨p, 0, none⟩)] w fun ev w' => ev = .returned (.pointer (some ⟨R, n * 2, none⟩)) ∧ Al w w') := innermost_any c2 (by omega)
  have HDW : Hid (Calls Tryd.prog 38 #[.pointer (some ⟨p, 0, none⟩)] w fun e w' => e = .returned (.int .i64 (n : Int)) ∧ w' = w) := by
    have := depth_any c2 (by omega)
    rw [show (((n + 1 : Nat) : Int) - 1) = (n : Int) by omega] at this; exact this
  have HD : Hid (∀ wx, wx.cell? ⟨p, 2, none⟩ = some (.slice (some ⟨R, 0, none⟩) (n + 1) cap) → Calls Tryd.prog 38 #[.pointer (some ⟨p, 0, none⟩)] wx fun e w' => e = .returned (.int .i64 (n : Int)) ∧ w' = wx) := fun wx hx => by
    have := depth_any hx (by omega)
    rw [show (((n + 1 : Nat) : Int) - 1) = (n : Int) by omega] at this; exact this
  have hbn : ((n : Int) == 0) = false := by simp; omega
  have hnc : (n : Int) ≤ (cap : Int) := by omega
  have hn0 : (0 : Int) ≤ (n : Int) := by omega
  have hpl := h.cu.lt
  have HNG : Hid _ := hn
  clear h hlen hlen1 hcv hn
  go_enter Tryd.func53, Tryd.ntmps53
  go_wp2_with fail
  refine Calls.mono HDW.out ?_
  rintro ev w1 ⟨rfl, hw1⟩
  rw [hw1]
  clear hw1 w1
  go_wp2_with fail
  refine Calls.mono HIN.out ?_
  rintro ev wx ⟨rfl, ha⟩
  have x1 : wx.cell? ⟨R, n * 2 + 1, none⟩ = some (.slice av nv cv) := (ha.cell _).trans r1
  have HA : Hid _ := ha
  clear r1 c2 ha HDW HIN
  go_wp2_with fail
  obtain ⟨wy, hwy⟩ : ∃ wy, wy = wx.alloc (.cells #[.string ⟨#[]⟩, .bool true, .slice av nv cv] 35) := ⟨_, rfl⟩
  rw [← hwy]
  have hbw : Below w.heap.size w wy := by rw [hwy]; exact (al_below (Below.refl _ _) HA.out).alloc (by rw [HA.out.heap]; omega) _
  have hsx : wx.heap.size = w.heap.size := by rw [HA.out.heap]
  have hsy : wy.heap.size = w.heap.size + 1 := by rw [hwy]; simp [hsx]
  have hbox : wy.heap[wx.heap.size]? = some (.cells #[.string ⟨#[]⟩, .bool true, .slice av nv cv] 35 (0, 0)) := by rw [hwy]; exact heap_alloc_new wx _
  have hY := H.out.below hbw
  have y2 := hY.c2
  have yf := hY.f2 2
  have HY : Hid _ := hY
  have HBW : Hid _ := hbw
  have HBX : Hid _ := hbox
  have HSX : Hid _ := hsx
  have HSY : Hid _ := hsy
  have HDD : Hid (Calls Tryd.prog 38 #[.pointer (some ⟨p, 0, none⟩)] wy.drew fun e w' => e = .returned (.int .i64 (n : Int)) ∧ w' = wy.drew) := HD.out wy.drew y2
  clear hwy x1 hbox hY hbw hsx hsy
  go_wp2_with fail
  go_region_with ((go_at_call 38; refine Calls.mono HDD.out ?_; rintro ev wq ⟨rfl, hwq⟩; rw [hwq]; clear hwq wq))
  all_goals
    obtain ⟨wz, hwz⟩ : ∃ wz, wz = (wy.setCell ⟨p, 2, none⟩ (.slice (some ⟨R, 0, none⟩) n cap)).drew := ⟨_, rfl⟩
    rw [← hwz]
    have hon : On wy wz p := by rw [hwz]; exact (On.put wy p 2 _).al ⟨rfl, rfl, rfl, rfl⟩
    have hpz : wz.heap[p]? = some (.cells #[.string t, .int .i64 (k : Int), .slice (some ⟨R, 0, none⟩) n cap] 54 (0, 0)) := by
      rw [hwz]
      have := heap_setCell_same wy p 2 _ _ (.slice (some ⟨R, 0, none⟩) n cap) HY.out.cu.hd
      exact this
    obtain ⟨hO, hRow⟩ := HY.out.os.pop (by rw [fcs_len]) (by rw [HNG.out]; simp) (by simp)
    have hoy := HY.out.out
    have hmem : ∀ b, some b ∈ (Value.slice (some ⟨R, 0, none⟩) n cap).ownBlock :: (gs ++ [f]).map (fun f => f.v.ownBlock) ∨ (D b ∨ c.v.ownBlock = some b) → b ≠ p := by
      intro b hb e
      subst e
      rcases hb with hb | hb | hb
      · apply hoy
        rcases List.mem_cons.1 hb with e | hb
        · exact List.mem_cons.2 (Or.inl e)
        · exact List.mem_cons_of_mem _ (by rw [List.map_append]; exact List.mem_append_left _ hb)
      · exact HY.out.nd hb
      · exact hoy (List.mem_cons_of_mem _ (by rw [List.map_append]; exact List.mem_append_right _ (by simp [hb])))
    have hP : Pz wz (fun b => D b ∨ c.v.ownBlock = some b) B p t k (.slice (some ⟨R, 0, none⟩) n cap) (gs ++ [f]) := by
      refine ⟨⟨hpz⟩, hO.keep (by rw [hon.size]; omega) (fun b hb => hon.block b (hmem b hb)), fun hm => hmem p (Or.inl hm) rfl, fun hd => hmem p (Or.inr hd) rfl, HY.out.bp⟩
    have hRz : Row wz (fun b => D b ∨ c.v.ownBlock = some b) c.ks c.v := hRow.keep (fun b hb => hon.block b (hmem b (Or.inr hb))) (fun _ h => h)
    have hBz : B ≤ wz.heap.size := by rw [hon.size, HSY.out]; omega
    have HAD : Hid (Calls Tryd.prog 55 #[.pointer (some ⟨p, 0, none⟩), .agg #[.string ⟨#[]⟩, .bool true, .slice av nv cv]] wz fun ev w' => ev = .returned (.tuple #[]) ∧ (∃ v', Pz w' (fun b => D b ∨ c.v.ownBlock = some b) B p t k (.slice (some ⟨R, 0, none⟩) n cap) (gs ++ [⟨f.pl, v', f.es ++ [(.mk ⟨#[]⟩ true c.ks, c.v)]⟩])) ∧ Below B wz w') := by
      have h1 := add_any hP (e := (.mk ⟨#[]⟩ true c.ks, c.v)) hRz hBz hroom (by omega)
      have e2 : (Value.agg #[.string (Sx.mk ⟨#[]⟩ true c.ks).w, .bool (Sx.mk ⟨#[]⟩ true c.ks).l, c.v]) = .agg #[.string ⟨#[]⟩, .bool true, .slice av nv cv] := by rw [HCV.out]; rfl
      rw [← e2]; exact h1
    have hbz : wz.heap[wx.heap.size]? = some (.cells #[.string ⟨#[]⟩, .bool true, .slice av nv cv] 35 (0, 0)) := (hon.block _ (by rw [HSX.out]; omega)).trans HBX.out
    have z0 : wz.cell? ⟨wx.heap.size, 0, none⟩ = some (.string ⟨#[]⟩) := cell_of hbz 0 rfl
    have z1 : wz.cell? ⟨wx.heap.size, 1, none⟩ = some (.bool true) := cell_of hbz 1 rfl
    have z2 : wz.cell? ⟨wx.heap.size, 2, none⟩ = some (.slice av nv cv) := cell_of hbz 2 rfl
    have HBZ : Hid (Below B w wz) := on_below (HBW.out.mono hB) hon HY.out.bp
    have hbp := HY.out.bp
    clear hwz hon hpz hO hRow hoy hmem hP hRz hBz hbz y2 yf
    go_wp2_with fail
    refine Calls.mono HAD.out ?_
    rintro ev w5 ⟨rfl, ⟨v', hP5⟩, hb5⟩
    have HP5 : Hid _ := hP5
    clear hP5
    go_wp2_with fail
    refine Calls.mono (step_any HP5.out.cu (by omega)) ?_
    rintro ev w6 ⟨rfl, hcu, hon⟩
    go_wp2_with fail
    go_ret
    exact ⟨rfl, ⟨_, _, _, HP5.out.on hcu hon.grown⟩, on_below (HBZ.out.trans hb5) hon hbp⟩
end Go.Proofs.YtikdjloedeinhaaDoor
