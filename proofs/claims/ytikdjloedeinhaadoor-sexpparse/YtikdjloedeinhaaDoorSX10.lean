/- Contracts (sexp): add. (Made by a script.) -/
import Derived.Test.YtikdjloedeinhaaDoorSX9
namespace Go.Proofs.YtikdjloedeinhaaDoor
open Go.RowKit
set_option linter.unusedSimpArgs false
set_option linter.unusedVariables false

theorem BSt.cells {x0 : World} {B : Nat} {S : TypeId} {v : Value} {m : Nat} {old zs fs : List Value} {R o : Nat} {cr : Array Value} {TR : TypeId} {il ib ia ie is : Nat} {g : Nat → Nat} {L : Nat → Bool} {x : World} (h : BSt x0 B S 3 v m old zs fs R o cr TR il ib ia ie is g L x) (hLa : L ia = true) :
    ∃ z0 z1 z2, x.cell? ⟨g ia / 2 ^ 64, m * 3, none⟩ = some z0 ∧ x.cell? ⟨g ia / 2 ^ 64, m * 3 + 1, none⟩ = some z1 ∧ x.cell? ⟨g ia / 2 ^ 64, m * 3 + 2, none⟩ = some z2 ∧ ∀ o, x.frozen? ⟨g ia / 2 ^ 64, o, none⟩ = false := by
  obtain ⟨hr, -⟩ := h.ra hLa
  rcases hr.2 with ⟨e, -⟩ | ⟨q', cap, cur, hv', hb, hqq, hc, hm, hs, htk⟩
  · unfold sl at e; cases e
  · obtain rfl : g ia / 2 ^ 64 = q' := by unfold sl at hv'; injection hv' with e1; injection e1 with e1; injection e1
    have hl : m * 3 + 3 ≤ cur.size := by rw [hs]; omega
    exact ⟨_, _, _, cell_of hqq _ (Array.getElem?_eq_getElem (by omega)), cell_of hqq _ (Array.getElem?_eq_getElem (by omega)), cell_of hqq _ (Array.getElem?_eq_getElem (by omega)), fun o => by simp [World.frozen?, hqq]⟩
/-- The open lists' row, its last list's slice turned. -/
theorem last_set {z : World} {B R cap : Nat} {O : TypeId} {cr : Array Value} {gs : List Fm} {f : Fm} {v' : Value} (hR : z.heap[R]? = some (.cells (cr.setIfInBounds (gs.length * 2 + 1) v') O (0, 0))) (hB : B ≤ R) (hc : gs.length + 1 ≤ cap) (hm : cap ≤ maxLen) (hs : cr.size = cap * 2) (ht : cr.toList.take ((gs.length + 1) * 2) = (gs ++ [f]).flatMap Fm.cs) {es : List En} :
    z.ownsRow B O 2 (.slice (some ⟨R, 0, none⟩) (gs.length + 1) cap) (gs ++ [(⟨f.pl, v', es⟩ : Fm)]).length ((gs ++ [(⟨f.pl, v', es⟩ : Fm)]).flatMap Fm.cs) := by
  have hl : (gs ++ [(⟨f.pl, v', es⟩ : Fm)]).length = gs.length + 1 := by simp
  rw [hl]
  refine ⟨by rw [fcs_len]; simp, Or.inr ⟨R, cap, _, rfl, hB, hR, hc, hm, by simp [hs], ?_⟩⟩
  have ht' : cr.toList.take (gs.length * 2 + 2) = gs.flatMap Fm.cs ++ [.int .i64 (f.pl : Int), f.v] := by
    rw [← show (gs.length + 1) * 2 = gs.length * 2 + 2 by omega, ht, List.flatMap_append]; simp [Fm.cs]
  have h1 := take_set1 (a := v') ht' (fcs_len gs)
  rw [show (gs.length + 1) * 2 = gs.length * 2 + 2 by omega, List.flatMap_append]
  simpa [Fm.cs] using h1

set_option maxRecDepth 20000 in
set_option maxHeartbeats 12800000 in
theorem add_any {w : World} {D : Nat → Prop} {B p : Nat} {t : ByteArray} {k : Nat} {so : Value} {gs : List Fm} {f : Fm} (h : Pz w D B p t k so (gs ++ [f])) {e : En} (hr : Row w D e.1.ks e.2) (hB : B ≤ w.heap.size) (hroom : f.es.length ≤ 100000) (hdeep : gs.length ≤ 1000) :
    Calls Tryd.prog 55 #[.pointer (some ⟨p, 0, none⟩), .agg #[.string e.1.w, .bool e.1.l, e.2]] w fun ev w' => ev = .returned (.tuple #[]) ∧ (∃ v', Pz w' D B p t k so (gs ++ [⟨f.pl, v', f.es ++ [e]⟩])) ∧ Below B w w' := by
  have hBw := hB
  obtain ⟨R, cap, rfl, hBR, hRw, hcap⟩ := h.os.sl (by simp)
  have hlen : (gs ++ [f]).length = gs.length + 1 := by simp
  rw [hlen] at h hcap ⊢
  have HIN : Hid (∀ wx, wx.cell? ⟨p, 2, none⟩ = some (.slice (some ⟨R, 0, none⟩) (gs.length + 1) cap) → Calls Tryd.prog 39 #[.pointer (some ⟨p, 0, none⟩)] wx fun ev w' => ev = .returned (.pointer (some ⟨R, gs.length * 2, none⟩)) ∧ Al wx w') := fun wx hx => innermost_any hx (by omega)
  have H : Hid _ := h
  have HR : Hid _ := hr
  obtain ⟨u2, hu2⟩ : ∃ u, u = e.2 := ⟨_, rfl⟩
  have hslice : ∃ a n c, u2 = .slice a n c := by rw [hu2]; exact hr.sl
  obtain ⟨a2, n2, c2, hu3⟩ := hslice
  subst hu3
  rw [← hu2]
  have c2' := (h.below ((Below.refl w.heap.size w).alloc (Nat.le_refl _) (.cells #[.string e.1.w, .bool e.1.l, .slice a2 n2 c2] 35))).c2
  have HU2 : Hid _ := hu2
  clear h hr hu2
  go_enter Tryd.func55, Tryd.ntmps55
  go_wp2_with fail
  refine Calls.mono (HIN.out _ c2') ?_
  rintro ev wx ⟨rfl, ha⟩
  have hbx : Below w.heap.size w wx := al_below ((Below.refl _ _).alloc (Nat.le_refl _) _) ha
  have hX := H.out.below hbx
  have hsx : wx.heap.size = w.heap.size + 1 := by rw [ha.heap]; simp
  have hbox : wx.heap[w.heap.size]? = some (.cells #[.string e.1.w, .bool e.1.l, .slice a2 n2 c2] 35 (0, 0)) := by rw [ha.heap]; exact heap_alloc_new w _
  have b0 := cell_of hbox 0 rfl
  have b1 := cell_of hbox 1 rfl
  have b2 := cell_of hbox 2 rfl
  obtain ⟨-, -, r1, rf⟩ := hX.os.last
  obtain ⟨cr, hcr⟩ : ∃ cr, wx.heap[R]? = some (.cells cr 76 (0, 0)) ∧ cap ≤ maxLen ∧ cr.size = cap * 2 ∧ cr.toList.take ((gs.length + 1) * 2) = (gs ++ [f]).flatMap Fm.cs := by
    rcases hX.os.row.2 with ⟨e1, -⟩ | ⟨R', cap', cur, hv, hb, hg, hc, hm, hs, ht⟩
    · cases e1
    · injection hv with e1 e2 e3
      injection e1 with e1
      injection e1 with e1
      subst e1 e3
      exact ⟨cur, hg, hm, hs, by rw [hlen] at ht; exact ht⟩
  obtain ⟨af, cf, hfv⟩ : ∃ a c, f.v = .slice a f.es.length c := by
    rcases (hX.os.own f (by simp)).2 with ⟨e1, e2⟩ | ⟨g, c, _, e1, -⟩
    · exact ⟨none, 0, by rw [e1, e2]⟩
    · exact ⟨_, _, e1⟩
  have hown := hX.os.own f (by simp)
  have hownw := H.out.os.own f (by simp)
  have hfR := (ownBlock_ne hX.os).1
  obtain ⟨m, hm⟩ : ∃ m, m = f.es.length := ⟨_, rfl⟩
  have HMM : Hid _ := hm
  have HFV : Hid _ := hfv
  rw [hfv, ← hm] at r1 hfR hown hownw
  have HW : Hid (wx.ownsRow B 35 3 (.slice af m cf) m (f.es.flatMap ecs)) := hown
  have HBV : Hid (∀ k, (Value.slice af m cf).ownBlock = some k → k < wx.heap.size) := fun k hk => (hown.lt k hk).2
  have HVR : Hid _ := hfR
  have hRv : some R ≠ (Value.slice af m cf).ownBlock := fun e => hfR e.symm
  have HOL : Hid ((f.es.flatMap ecs).length = m * 3) := by rw [hm]; exact ecs_len _
  have HHD : Hid _ := hcr.1
  have HCR : Hid _ := hcr.2
  have hRl : R < wx.heap.size := by omega
  have hbl : w.heap.size < wx.heap.size := by omega
  have hbR : w.heap.size ≠ R := by omega
  have hbv1 : some w.heap.size ≠ (Value.slice af m cf).ownBlock := fun e => by have := (hownw.lt _ e.symm).2; omega
  have hmI : (m : Int) < (m : Int) + 1 := by omega
  have hBx : B ≤ wx.heap.size := by omega
  have hmr : m ≤ 100000 := by omega
  have HX : Hid _ := hX
  have HBX : Hid _ := hbx
  obtain ⟨ti, ht0, hz0, hz1, hz2⟩ := info_any infoS
  have HI0 : Hid _ := (⟨ht0, hz0, hz1, hz2⟩ : Tryd.prog.info? 35 = some ti ∧ ti.zero = _ ∧ ti.size = 3 ∧ ti.bytes = 48)
  clear hfv hm hbox ha hX hfR hbx HIN c2' hroom hlen hB hsx hcr hown hownw ht0 hz0 hz1 hz2
  go_wp2_with fail
  refine wp_named fun a0 ha0 => ?_
  have o3 := old_at ha0 (t := 3) rfl
  have o4 := old_at ha0 (t := 4) rfl
  refine wp_region_lin (S := BSt wx B 35 3 (.slice af m cf) m (f.es.flatMap ecs) [.string ⟨#[]⟩, .bool false, .slice none 0 0] [.string e.1.w, .bool e.1.l, .slice a2 n2 c2] R (gs.length * 2 + 1) cr 76 3 6 7 9 12) [6, 7] (fun _ => 0) (by kernel_rfl) (by kernel_rfl) (by rw [← ha0]; kernel_rfl) (BSt.start (x := wx.drew) ⟨rfl, rfl, rfl, rfl⟩) ?_
  refine' LinAll.cons _ ?_ ?_ ?_
  rotate_left 1
  · intro g L a x hLi haft hS hK
    have t4 := (hK.old 4 (by kernel_rfl)).trans o4
    (try dsimp only at t4)
    refine go_in (wanted_all rfl) ?_
    intro K hk
    clear haft hK hLi
    go_simp
    exact hk.out g x (fun _ _ => rfl) (hS.go rfl)
  · intro i hi; exact Or.inl (fun _ _ _ => rfl)
  refine' LinAll.cons _ ?_ ?_ ?_
  rotate_left 1
  · intro g L a x hLi haft hS hK
    have t7 := hK.new 0 0 _ 7 _ rfl rfl rfl (by kernel_rfl) (waits haft 0 (by kernel_rfl))
    (try dsimp only at t7)
    refine go_in (wanted_all rfl) ?_
    intro K hk
    clear haft hK hLi
    go_simp
    exact hk.out g x (fun _ _ => rfl) (hS.go rfl)
  · intro i hi; exact Or.inl (fun _ _ _ => rfl)
  refine' LinAll.cons _ ?_ ?_ ?_
  rotate_left 1
  · intro g L a x hLi haft hS hK
    have t8 := hK.new 1 0 _ 8 _ rfl rfl rfl (by kernel_rfl) (waits haft 1 (by kernel_rfl))
    (try dsimp only at t8)
    refine go_in (wanted_all rfl) ?_
    intro K hk
    clear haft hK hLi
    go_simp
    exact hk.out g x (fun _ _ => rfl) (hS.go rfl)
  · intro i hi; exact Or.inl (fun _ _ _ => rfl)
  refine' LinAll.cons _ ?_ ?_ ?_
  rotate_left 1
  · intro g L a x hLi haft hS hK
    have t9 := hK.new 2 0 _ 9 _ rfl rfl rfl (by kernel_rfl) (waits haft 2 (by kernel_rfl))
    (try dsimp only at t9)
    obtain ⟨na, ns⟩ := hS.noa hLi
    have c1 : x.cell? ⟨R, gs.length * 2 + 1, none⟩ = some (.slice af m cf) := (World.cell?_of_block (a := ⟨R, _, none⟩) (hS.kp R hRl (fun _ => hRv) (fun e => by rw [ns] at e; cases e))).trans r1
    clear na ns
    refine go_in (wanted_all rfl) ?_
    intro K hk
    clear haft hK hLi
    go_simp
    exact hk.out g x (fun _ _ => rfl) (hS.go rfl)
  · intro i hi; exact Or.inl (fun _ _ _ => rfl)
  refine' LinAll.cons _ ?_ ?_ ?_
  rotate_left 1
  · intro g L a x hLi haft hS hK
    have t3 := (hK.old 3 (by kernel_rfl)).trans o3
    (try dsimp only at t3)
    have hbq := hS.kp w.heap.size hbl (fun _ => hbv1) (fun _ => hbR)
    have d0 := (World.cell?_of_block (a := ⟨w.heap.size, 0, none⟩) hbq).trans b0
    have d1 := (World.cell?_of_block (a := ⟨w.heap.size, 1, none⟩) hbq).trans b1
    have d2 := (World.cell?_of_block (a := ⟨w.heap.size, 2, none⟩) hbq).trans b2
    clear hbq
    refine go_in (wanted_all rfl) ?_
    intro K hk
    clear haft hK hLi
    go_simp
    exact hk.out g x (fun _ _ => rfl) (hS.go rfl)
  · intro i hi; exact Or.inl (fun _ _ _ => rfl)
  refine' LinAll.cons _ ?_ ?_ ?_
  rotate_left 1
  · intro g L a x hLi haft hS hK
    have t10 := hK.new 3 1 _ 10 _ rfl rfl rfl (by kernel_rfl) (waits haft 3 (by kernel_rfl))
    (try dsimp only at t10)
    refine go_in (wanted_all rfl) ?_
    intro K hk
    clear haft hK hLi
    go_simp
    exact hk.out g x (fun _ _ => rfl) (hS.go rfl)
  · intro i hi; exact Or.inl (fun _ _ _ => rfl)
  refine LinAll.cons (fun g => .slice (some ⟨g 6, 0, none⟩) 1 1) ?_ ?_ ?_
  · intro g L a x hLi haft hS hK
    refine go_in (wanted_all rfl) ?_
    intro K hk
    clear haft hK
    go_simp
    have hq := hk.out (updG g 6 x.heap.size) _ (updG_al (by rfl)) (hS.built hLi (by decide))
    dsimp only at hq
    rw [updG_eq] at hq
    exact hq
  · intro i hi; simp only [List.mem_cons, List.not_mem_nil, or_false] at hi; rcases hi with rfl | rfl; exact Or.inr (by kernel_rfl); exact Or.inl (fun g g' h => by simp only [h 6 (by decide)])
  refine LinAll.cons (fun g => sl (m + 1) (g 7)) ?_ ?_ ?_
  · intro g L a x hLi haft hS hK
    have t10 := hK.new 3 3 _ 10 _ rfl rfl rfl (by kernel_rfl) (waits haft 3 (by kernel_rfl))
    have t13 := hK.new 6 0 _ 13 _ rfl rfl rfl (by kernel_rfl) (waits haft 6 (by kernel_rfl))
    (try dsimp only at t10 t13)
    have hLl := waits haft 3 (by kernel_rfl)
    have hLb := waits haft 6 (by kernel_rfl)
    have his : L 12 = false := by
      cases e : L 12
      · rfl
      · rw [hS.d3 e] at hLi; cases hLi
    have hrow := row_own HW.out (fun k hk => hS.kp k (HW.out.lt k hk).2 (fun e => by rw [hLi] at e; cases e) (fun e => by rw [his] at e; cases e))
    have hsb := hS.sb hLb hLi
    refine go_in (wanted_all rfl) ?_
    intro K hk
    refine wp_append_at _ (.tmp 10) (.tmp 13) 23 rfl B 35 ti _ 3 48 underS HI0.out.1 HI0.out.2.1 HI0.out.2.2.1 HI0.out.2.2.2 rfl (by decide) _ m _ (eval_tmp t10) hrow ⟨g 6, 0, none⟩ 1 1 [.string ⟨#[]⟩, .bool false, .slice none 0 0] (eval_tmp t13) rfl (fun j u hj => by
        have e : (⟨g 6, 0, none⟩ : Addr).add j = ⟨g 6, j, none⟩ := by simp [Addr.add]; try (intro hq; exact hq.symm)
        rw [e]; exact cell_of hsb.1 j (by simpa using hj)) (by intro u hu; simp at hu; rcases hu with rfl | rfl | rfl <;> rfl) (by unfold maxLen; omega) (by omega) (by have := hS.siz; omega) ?_
    intro v' y hown hgrow hat
    obtain ⟨p, rfl⟩ := sl_own hown (by omega)
    have hq := hk.out (updG g 7 p) y (updG_al (by rfl)) (hS.app hLl hLb hLi (by decide) HBV.out hgrow hown hat)
    dsimp only at hq
    rw [updG_eq] at hq
    exact hq
  · intro i hi; simp only [List.mem_cons, List.not_mem_nil, or_false] at hi; rcases hi with rfl | rfl; exact Or.inl (fun g g' h => by simp only [h 7 (by decide)]); exact Or.inr (by kernel_rfl)
  refine LinAll.cons (fun g => .pointer (some ⟨g 7 / 2 ^ 64, m * 3, none⟩)) ?_ ?_ ?_
  · intro g L a x hLi haft hS hK
    have t12 := hK.new 5 2 _ 12 _ rfl rfl rfl (by kernel_rfl) (waits haft 5 (by kernel_rfl))
    have t14 := hK.new 7 0 _ 14 _ rfl rfl rfl (by kernel_rfl) (waits haft 7 (by kernel_rfl))
    (try dsimp only at t12 t14)
    unfold sl at t14
    refine go_in (wanted_all rfl) ?_
    intro K hk
    clear haft hK hLi
    go_simp
    exact hk.out g x (fun _ _ => rfl) (hS.go rfl)
  · intro i hi; simp only [List.mem_cons, List.not_mem_nil, or_false] at hi; rcases hi with rfl | rfl; exact Or.inl (fun g g' h => by simp only [h 7 (by decide)]); exact Or.inr (by kernel_rfl)
  refine LinAll.cons (fun _ => undef) ?_ ?_ ?_
  · intro g L a x hLi haft hS hK
    have t11 := hK.new 4 4 _ 11 _ rfl rfl rfl (by kernel_rfl) (waits haft 4 (by kernel_rfl))
    have t15 := hK.new 8 0 _ 15 _ rfl rfl rfl (by kernel_rfl) (waits haft 8 (by kernel_rfl))
    (try dsimp only at t11 t15)
    have hLa := waits haft 7 (by kernel_rfl)
    obtain ⟨z0, z1, z2, y0, y1, y2, yf⟩ := hS.cells hLa
    have hnew := hS.elem hLa hLi (by decide) HOL.out HVR.out hRl
    refine go_in (wanted_all rfl) ?_
    intro K hk
    clear haft hK hLi hLa
    go_simp
    exact hk.out g _ (fun _ _ => rfl) hnew
  · intro i hi; exact Or.inl (fun _ _ _ => rfl)
  refine' LinAll.cons _ ?_ ?_ ?_
  rotate_left 1
  · intro g L a x hLi haft hS hK
    have t7 := hK.new 0 9 _ 7 _ rfl rfl rfl (by kernel_rfl) (waits haft 0 (by kernel_rfl))
    (try dsimp only at t7)
    refine go_in (wanted_all rfl) ?_
    intro K hk
    clear haft hK hLi
    go_simp
    exact hk.out g x (fun _ _ => rfl) (hS.go rfl)
  · intro i hi; exact Or.inl (fun _ _ _ => rfl)
  refine' LinAll.cons _ ?_ ?_ ?_
  rotate_left 1
  · intro g L a x hLi haft hS hK
    have t16 := hK.new 10 0 _ 16 _ rfl rfl rfl (by kernel_rfl) (waits haft 10 (by kernel_rfl))
    (try dsimp only at t16)
    refine go_in (wanted_all rfl) ?_
    intro K hk
    clear haft hK hLi
    go_simp
    exact hk.out g x (fun _ _ => rfl) (hS.go rfl)
  · intro i hi; exact Or.inl (fun _ _ _ => rfl)
  refine LinAll.cons (fun _ => undef) ?_ ?_ ?_
  · intro g L a x hLi haft hS hK
    have t14 := hK.new 7 4 _ 14 _ rfl rfl rfl (by kernel_rfl) (waits haft 7 (by kernel_rfl))
    have t17 := hK.new 11 0 _ 17 _ rfl rfl rfl (by kernel_rfl) (waits haft 11 (by kernel_rfl))
    (try dsimp only at t14 t17)
    have hLa := waits haft 7 (by kernel_rfl)
    have hh := hS.kp R hRl (fun _ => hRv) (fun e => by rw [hLi] at e; cases e)
    have c1 : x.cell? ⟨R, gs.length * 2 + 1, none⟩ = some (.slice af m cf) := (World.cell?_of_block (a := ⟨R, _, none⟩) hh).trans r1
    have f1 : x.frozen? ⟨R, gs.length * 2 + 1, none⟩ = false := (World.frozen?_of_block (a := ⟨R, _, none⟩) hh).trans (rf _)
    have hnew := hS.store hLa hLi (by decide) HVR.out hRl HHD.out
    unfold sl at t14
    refine go_in (wanted_all rfl) ?_
    intro K hk
    clear haft hK hLi hLa hh
    go_simp
    exact hk.out g _ (fun _ _ => rfl) hnew
  · intro i hi; exact Or.inl (fun _ _ _ => rfl)
  refine LinAll.nil fun g x hS => ?_
  subst ha0
  simp only [Act.put, List.setIfInBounds_toArray, List.set_cons_zero, List.set_cons_succ]
  clear o3 o4
  have HS : Hid _ := hS
  clear hS
  go_wp2_with fail
  go_end0
  have hs := HS.out
  obtain ⟨hra, hat⟩ := hs.ra rfl
  have hrs := hs.rs rfl
  rcases hra.2 with ⟨e0, -⟩ | ⟨q, capq, cur, hv', hb, hqq, hc, hmx, hsz, htk⟩
  · unfold sl at e0; cases e0
  · rw [hv'] at hat hrs
    have hnew : f.v.ownBlock = some q ∨ wx.heap.size ≤ q := by
      rw [HFV.out, ← HMM.out]
      rcases hat with e1 | ⟨b', e1, hb'⟩
      · exact Or.inl e1.symm
      · right
        have e2 : some q = some b' := e1
        injection e2 with e2
        omega
    have hen : (f.es.flatMap ecs ++ ecs e) = f.es.flatMap ecs ++ [.string e.1.w, .bool e.1.l, .slice a2 n2 c2] := by
      show _ ++ [.string e.1.w, .bool e.1.l, e.2] = _
      rw [← HU2.out]
    have hL : Laid wx x q R f.es.length f.v cur (f.es.flatMap ecs ++ ecs e) 35 capq := by
      refine ⟨hs.os, hs.tape, hs.output, hs.siz, hqq, ⟨hsz, ?_⟩, hnew, fun b hb h1 h2 => hs.kp b hb (fun _ => ?_) (fun _ => h1)⟩
      · rw [hen, ← HMM.out]; exact htk
      · rw [HFV.out, ← HMM.out] at h2; exact h2
    have hrow := last_set (B := B) (f := f) (es := f.es ++ [e]) hrs hBR hcap HCR.out.1 HCR.out.2.1 HCR.out.2.2
    rw [HMM.out] at hrow
    have hO := HX.out.os.laid hL (HR.out.keep (fun g hg => HBX.out.block g (H.out.os.done g hg).2) (fun _ h => h)) hBx hrow (by rw [← HMM.out]; exact hc) hmx
    have hpw := H.out.cu.lt
    have hpq : p ≠ q ∧ p ≠ R ∧ some p ≠ f.v.ownBlock := by
      have ho := H.out.out
      simp only [List.mem_cons, not_or, List.map_append, List.mem_append, List.map_cons, List.map_nil, List.not_mem_nil, or_false] at ho
      have h3 : some p ≠ f.v.ownBlock := fun e1 => ho.2.2 (by rw [e1])
      refine ⟨?_, ?_, h3⟩
      · rcases hnew with e1 | e1
        · intro e2; rw [← e2] at e1; exact h3 e1.symm
        · omega
      · intro e2; exact ho.1 (by rw [e2]; rfl)
    have hpb : x.heap[p]? = wx.heap[p]? := hL.block p (by omega) hpq.2.1 hpq.2.2
    refine ⟨rfl, ⟨.slice (some ⟨q, 0, none⟩) (f.es.length + 1) capq, ⟨?_⟩, hO, ?_, H.out.nd, H.out.bp⟩, ?_⟩
    · rw [hpb]; exact HX.out.cu.hd
    · intro hmem
      have ho := H.out.out
      simp only [List.mem_cons, List.map_append, List.mem_append, List.map_cons, List.map_nil, List.not_mem_nil, or_false, not_or] at hmem ho
      rcases hmem with e1 | e1 | e1
      · exact ho.1 e1
      · exact ho.2.1 e1
      · exact hpq.1 (by have e2 : some p = some q := e1; injection e2)
    · refine HBX.out.mono hBw |>.trans ⟨hs.os, hs.tape, hs.output, hs.siz, fun b hb => hL.block b (by omega) (by omega) (fun e1 => ?_)⟩
      have := ((H.out.os.own f (by simp)).lt b e1.symm).1
      omega
end Go.Proofs.YtikdjloedeinhaaDoor
