/- Contracts (store): lay. (Made by a script: st9.py.) -/
import Derived.Test.YtkndjndhjdfhcaaST8
namespace Go.Proofs.Ytkndjndhjdfhcaa
open Go.RowKit
set_option linter.unusedSimpArgs false
set_option linter.unusedVariables false

/-- A row is appended to (onto the row as it was) and its slice stored. -/
theorem ap_set {w w1 : World} {R f : Nat} {cr : Array Value} {T : TypeId} {u v' : Value} {y : List Int} (hcr : w.heap[R]? = some (.cells cr T)) (hne : u.ownBlock ≠ some R) (hg : w.grownBy w1 u.ownBlock) (ho : Is' w1 0 v' y) (hat : v'.ownBlock = u.ownBlock ∨ ∃ b, v'.ownBlock = some b ∧ w.heap.size ≤ b) : Ap w (w1.setCell ⟨R, f, none⟩ v') R f u v' y T cr := by
  have hl := (Array.getElem?_eq_some_iff.1 hcr).1
  have h1 : w1.heap[R]? = some (.cells cr T) := (hg.block R hl (fun e => hne e.symm)).trans hcr
  refine ⟨hg.os, hg.tape, hg.output, by rw [World.size_setCell]; exact hg.size, fun q hq h2 h3 => (heap_setCell_other _ _ _ _ h3).trans (hg.block q hq (fun e => h2 e.symm)), by rw [heap_setCell_same _ _ _ _ _ _ h1], row_far ho ?_, hat⟩
  rcases hat with e | ⟨b, e, hb⟩
  · rw [e]; exact hne
  · rw [e]; intro q; injection q; omega
theorem grown_of {w w1 : World} {o : Obj} {row : Option Nat} (hg : (w.alloc o).grownBy w1 row) : w.grownBy w1 row :=
  ⟨hg.os, hg.tape, hg.output, by have := hg.size; rw [size_alloc'] at this; omega, fun q hq hn => (hg.block q (by rw [size_alloc']; omega) hn).trans (heap_alloc_old _ _ hq)⟩
theorem at_of {w : World} {o : Obj} {x y : Option Nat} (h : x = y ∨ x = some (w.alloc o).heap.size) : x = y ∨ ∃ b, x = some b ∧ w.heap.size ≤ b := by
  rcases h with h | h
  · exact Or.inl h
  · exact Or.inr ⟨_, h, by rw [size_alloc']; omega⟩
theorem at_of' {w : World} {x y : Option Nat} (h : x = y ∨ x = some w.heap.size) : x = y ∨ ∃ b, x = some b ∧ w.heap.size ≤ b := by
  rcases h with h | h
  · exact Or.inl h
  · exact Or.inr ⟨_, h, Nat.le_refl _⟩
theorem is_app {w : World} {B : Nat} {v : Value} {n : Nat} {l m : List Int} (h : w.ownsRow B 3 1 v (n + m.length) (l.map (Value.int .i64) ++ m.map (Value.int .i64))) (hn : n = l.length) : Is' w B v (l ++ m) := by
  unfold Is'
  rw [List.map_append, List.length_append, ← hn]
  exact h
theorem run_append_none (w : World) (ty : TypeId) {base : Nat} {v : Value} {l : List Int} {c : Nat} (hown : Is' w base v l) :
    (Builtin.append_ #[27, 27] ty #[v, .slice none 0 c]).run Try.prog w = .ok v w := by
  obtain ⟨i, hi, hz, hs, hb⟩ := info_any infoInt
  rcases hown.2 with ⟨rfl, -⟩ | ⟨g, cap, cur, rfl, hbg, hg, hnc, hcm, hcs, htake⟩
  · simp [Builtin.append_, run_underlying underInts, sizeOf, typeInfo, hi, Builtin.lenOf, Builtin.firstCells]
  · simp [Builtin.append_, run_underlying underInts, sizeOf, typeInfo, hi, Builtin.lenOf, Builtin.firstCells, hnc, storeCells]
/-- 'append(v, u...)'. -/
theorem run_app (w : World) (ty : TypeId) {base : Nat} {v u : Value} {l c : List Int} (hv : Is' w base v l) (hu : Sr w u c) (hn : l.length + c.length ≤ 2000000) (hbase : base ≤ w.heap.size) :
    ∃ v' w', (Builtin.append_ #[27, 27] ty #[v, u]).run Try.prog w = .ok v' w' ∧ Is' w' base v' (l ++ c) ∧ w.grownBy w' v.ownBlock ∧ (v'.ownBlock = v.ownBlock ∨ v'.ownBlock = some w.heap.size) := by
  obtain ⟨i, hi, hz, hs, hb⟩ := info_any infoInt
  obtain ⟨a, k, rfl, h2⟩ := hu.ex
  have go : ∀ (ad : Addr), (∀ j y, (c.map (Value.int .i64))[j]? = some y → w.cell? (ad.add j) = some y) → ∃ v' w', (Builtin.append_ #[27, 27] ty #[v, .slice (some ad) c.length k]).run Try.prog w = .ok v' w' ∧ Is' w' base v' (l ++ c) ∧ w.grownBy w' v.ownBlock ∧ (v'.ownBlock = v.ownBlock ∨ v'.ownBlock = some w.heap.size) := by
    intro ad ha
    obtain ⟨v', w', h1, h2, h3, -, h5⟩ := run_append_own_at (P := Try.prog) w base 27 ty 3 i _ 1 8 underInts hi hz hs hb rfl (by decide) v l.length _ hv ad c.length k (c.map (Value.int .i64)) (by simp) ha (ones c) (by unfold maxLen; omega) (by omega) hbase
    exact ⟨v', w', h1, is_app h2 rfl, h3, h5⟩
  rcases h2 with rfl | ⟨r, o, rfl, -, h2⟩
  · cases a with
    | none =>
      refine ⟨v, w, run_append_none w ty hv, ?_, ⟨rfl, rfl, rfl, Nat.le_refl _, fun _ _ _ => rfl⟩, Or.inl rfl⟩
      rw [List.append_nil]; exact hv
    | some ad => exact go ad (fun j y h => by simp at h)
  · exact go ⟨r, o, none⟩ (Li.news h2)
theorem wpList_app {w : World} {ops : Array Oper} {rest : List Oper} {o : Oper} {a : Act} {Q : Exit → Act → World → Prop} (hgd : o.guard = none) (s x : Operand)
    (ho : o.op = .call { callee := .builtin .append, args := #[s, x], argTypes := #[27, 27] })
    (base : Nat) (v : Value) (l : List Int) (hs : a.eval s = v) (hown : Is' w base v l) (u : Value) (c : List Int) (hx : a.eval x = u) (hu : Sr w u c) (hn : l.length + c.length ≤ 2000000) (hbase : base ≤ w.heap.size)
    (h : ∀ v' w', Is' w' base v' (l ++ c) → w.grownBy w' v.ownBlock → (v'.ownBlock = v.ownBlock ∨ v'.ownBlock = some w.heap.size) → wpList Try.prog ops Q rest (a.put o.dst v') w') :
    wpList Try.prog ops Q (o :: rest) a w := by
  obtain ⟨v', w', hr, h2, h3, h4⟩ := run_app w o.type hown hu hn hbase
  exact wpList_app_eq w hgd s x _ _ ho v u hs hx hr (h v' w' h2 h3 h4)
theorem own_sl {w : World} {B : Nat} {e : TypeId} {sz : Nat} {v : Value} {n : Nat} {xs : List Value} (h : w.ownsRow B e sz v n xs) : ∃ a m k, v = .slice a m k ∧ Hid (m = n) := by
  obtain ⟨a, k, e⟩ := own_slice h
  exact ⟨a, n, k, e, rfl⟩
theorem sr_one (w : World) (x : Int) : Sr (w.alloc (.cells #[.int .i64 x] 3)) (.slice (some ⟨w.heap.size, 0, none⟩) 1 1) [x] :=
  ⟨_, _, rfl, Or.inr ⟨w.heap.size, 0, rfl, by rw [size_alloc']; omega, fun j hj => by
    obtain rfl : j = 0 := by simp at hj; omega
    exact cell_of (heap_alloc_new w _) 0 rfl⟩⟩
/-- What a region in which something is appended leaves. -/
theorem BSt.ap {x0 : World} {v : Value} {l : List Int} {a : Int} {R o : Nat} {cr : Array Value} {TR : TypeId} {il ib ia ie is : Nat} {g : Nat → Nat} {L : Nat → Bool} {x : World} (h : BSt x0 0 3 1 v l.length (l.map (Value.int .i64)) [.int .i64 a] [] R o cr TR il ib ia ie is g L x) (h1 : L ia = true) (h2 : L is = true) (h3 : L ie = false) : Ap x0 x R o v (sl (l.length + 1) (g ia)) (l ++ [a]) TR cr := by
  obtain ⟨r1, r2⟩ := h.ra h1
  rw [h3] at r1
  exact ⟨h.os, h.tape, h.output, h.siz, fun q hq q1 q2 => h.kp q hq (fun _ e => q1 e.symm) (fun _ => q2), h.rs h2, is_app r1 rfl, r2⟩
set_option maxRecDepth 20000 in
set_option maxHeartbeats 12800000 in
theorem lay_any {w : World} {F : Nat → Prop} {s mo Bu : Nat} {A B S : List Int} {W : List (List Int)} (h : SX w F s mo A B S W) {u : Value} {c : List Int} (hu : Is' w Bu u c) (hF : ∀ k, F k → k < w.heap.size) (hub : ∀ b, u.ownBlock = some b → ¬ F b) (hA : A.length ≤ 300000) (hB : B.length ≤ 300000) (hc : c.length ≤ 300000) :
    Calls Try.prog 29 #[.pointer (some ⟨s, 0, none⟩), u] w fun e w' => e = .returned (.tuple #[]) ∧ ∃ F', SX w' F' s mo (A ++ 0 :: 1 :: c) (B ++ [((A.length + 2 + c.length : Nat) : Int)]) S W ∧ Ch w w' F F' := by
  obtain ⟨ti, ht0, hz0, hz1, hz2⟩ := info_any infoInt
  have HI0 : Hid _ := (⟨ht0, hz0, hz1, hz2⟩ : Try.prog.info? 3 = some ti ∧ ti.zero = some (.int .i64 0) ∧ ti.size = 1 ∧ ti.bytes = 8)
  clear ht0 hz0 hz1 hz2
  have HU : Hid (Is' w Bu u c) := hu
  obtain ⟨au, cu, hue⟩ := own_slice hu
  have H : Hid (SX w F s mo A B S W) := h
  have HF : Hid _ := hF
  have HUB : Hid _ := hub
  obtain ⟨nu, hnu⟩ : ∃ n, n = c.length := ⟨_, rfl⟩
  have HNU : Hid _ := hnu
  rw [← hnu] at hue hc ⊢
  subst hue
  clear h hu hF hub hnu
  go_enter Try.func29, Try.ntmps29
  go_wp2_with fail
  go_loopw [5] (fun i wr => ∃ k : Nat, k ≤ 2 ∧ i = .int .i64 (k : Int) ∧ ∃ F', Hid (SX wr F' s mo (A ++ ([0, 1] : List Int).take k) B S W ∧ Ch w wr F F')) (fun i wr => 2 - (intOf i).toNat)
  case atStart => exact ⟨0, Nat.zero_le _, rfl, F, by rw [List.take_zero, List.append_nil]; exact H.out, Ch.refl _ _⟩
  case round =>
    obtain ⟨k, hk, rfl, F', hH⟩ := hrel
    obtain ⟨hX, hCh⟩ := hH.out
    obtain ⟨va, vb, vs, vw, us, hS⟩ := hX
    have HS : Hid (St wr F' s mo va vb vs vw us (A ++ ([0, 1] : List Int).take k) B S W) := hS
    have HC : Hid (Ch w wr F F') := hCh
    have hsl := hS.lt
    by_cases hlt : k < 2
    · have c1 : wr.cell? ⟨s, 1, none⟩ = some va := cell_of hS.hd 1 rfl
      obtain ⟨n, hn⟩ : ∃ n, n = (A ++ ([0, 1] : List Int).take k).length := ⟨_, rfl⟩
      have hn2 : n ≤ 300002 := by rw [hn, List.length_append, List.length_take]; simp; omega
      have HN : Hid _ := hn
      have HTK : Hid (A ++ ([0, 1] : List Int).take (k + 1) = (A ++ ([0, 1] : List Int).take k) ++ [(k : Int)]) := by
        unfold Hid
        match k, hlt with
        | 0, _ => simp
        | 1, _ => simp
      have hkI : (k : Int) < 2 := by omega
      clear hS hCh hn
      go_wp2_with (at_builtin; refine wpList_app rfl _ _ rfl 0 va (A ++ ([0, 1] : List Int).take k) rfl (row_kept HS.out.ra (fun _ hq => heap_alloc_old _ _ hq)) _ [(k : Int)] rfl (sr_one wr k) (by rw [← HN.out]; simp; omega) (Nat.zero_le _) ?_; intro v1 w2 hown hgrow hat; obtain ⟨a1, m1, k1, hv1, HM1⟩ := own_sl hown; subst hv1; have HAP : Hid _ := (ap_set (f := 1) HS.out.hd (HS.out.nos (i := 0) rfl) (grown_of hgrow) hown (at_of hat)); have hd2 : w2.heap[s]? = _ := ((grown_of hgrow).block s hsl (fun e => HS.out.nos (i := 0) rfl e.symm)).trans HS.out.hd; have c12 : w2.cell? ⟨s, 1, none⟩ = some va := cell_of hd2 1 rfl; have f12 : w2.frozen? ⟨s, 1, none⟩ = false := (by simp [World.frozen?, hd2]); clear hown hgrow hat hd2)
      obtain ⟨q1, q2⟩ := HS.out.arena HAP.out
      refine ⟨⟨k + 1, by omega, by go_num, _, ?_, HC.out.trans q2⟩, by simp [intOf]; omega⟩
      rw [HTK.out]
      exact ⟨_, _, _, _, _, q1⟩
    · obtain rfl : k = 2 := by omega
      rw [show ((2 : Nat) : Int) = 2 from rfl]
      have hA2 : A ++ ([0, 1] : List Int).take 2 = A ++ [0, 1] := rfl
      rw [hA2] at HS
      have c1 : wr.cell? ⟨s, 1, none⟩ = some va := cell_of hS.hd 1 rfl
      obtain ⟨n, hn⟩ : ∃ n, n = (A ++ [0, 1]).length := ⟨_, rfl⟩
      have hn2 : n = A.length + 2 := by rw [hn, List.length_append]; rfl
      have HN : Hid _ := hn
      have HN2 : Hid _ := hn2
      have hn3 : n ≤ 300002 := by omega
      have HUW : Hid (Is' wr Bu (.slice au nu cu) c) := row_own HU.out (fun b hb => HC.out.block b (World.ownsRow.lt HU.out b hb).2 (HUB.out b hb))
      clear hS hCh hn hn2
      go_wp2_with (at_builtin; refine wpList_app rfl _ _ rfl 0 va (A ++ [0, 1]) rfl HS.out.ra _ c rfl (Is'.sr HUW.out) (by rw [← HN.out, ← HNU.out]; omega) (Nat.zero_le _) ?_; intro v1 w2 hown hgrow hat; obtain ⟨a1, m1, k1, hv1, HM1⟩ := own_sl hown; subst hv1; have HAP : Hid _ := (ap_set (f := 1) HS.out.hd (HS.out.nos (i := 0) rfl) hgrow hown (at_of' hat)); have hd2 : w2.heap[s]? = _ := (hgrow.block s hsl (fun e => HS.out.nos (i := 0) rfl e.symm)).trans HS.out.hd; have c12 : w2.cell? ⟨s, 1, none⟩ = some va := cell_of hd2 1 rfl; have f12 : w2.frozen? ⟨s, 1, none⟩ = false := (by simp [World.frozen?, hd2]); clear hown hgrow hat hd2)
      obtain ⟨q1, q2⟩ := HS.out.arena HAP.out
      obtain ⟨na, hna⟩ : ∃ n, n = m1 := ⟨_, rfl⟩
      have HNA : Hid (na = A.length + 2 + nu) := by unfold Hid; rw [hna, HM1.out, HNU.out]; simp; omega
      rw [← hna] at q1 q2 ⊢
      clear hna HAP
      obtain ⟨ab, cb, hvb⟩ := own_slice q1.rb
      obtain ⟨nb, hnb⟩ : ∃ n, n = B.length := ⟨_, rfl⟩
      rw [← hnb] at hvb hB
      subst hvb
      obtain ⟨aa, ca, hva⟩ : ∃ a c, Value.slice a1 na k1 = .slice a na c := ⟨_, _, rfl⟩
      obtain ⟨wz, hwz⟩ : ∃ wz, wz = w2.setCell ⟨s, 1, none⟩ (.slice a1 na k1) := ⟨_, rfl⟩
      rw [hva] at hwz q1 q2 ⊢
      rw [← hwz] at q1 q2 ⊢
      have HSZ : Hid _ := q1
      have HCZ : Hid _ := q2
      have HHD : Hid (wz.heap[s]? = some (.cells #[.int .i64 (mo : Int), .slice aa na ca, .slice ab nb cb, vs, vw] 54)) := q1.hd
      have HW : Hid (wz.ownsRow 0 3 1 (.slice ab nb cb) nb (B.map (Value.int .i64))) := by
        unfold Hid; rw [hnb]; rw [hnb] at q1; exact q1.rb
      have HBV : Hid (∀ k, (Value.slice ab nb cb).ownBlock = some k → k < wz.heap.size) := fun k hk => (World.ownsRow.lt q1.rb k hk).2
      have HVR : Hid ((Value.slice ab nb cb).ownBlock ≠ some s) := q1.nos (i := 1) rfl
      have hsv : some s ≠ (Value.slice ab nb cb).ownBlock := fun e => HVR.out e.symm
      have hsz : s < wz.heap.size := q1.lt
      have HNB : Hid _ := hnb
      clear q1 q2 hnb hwz hva c1 c12 f12
      go_wp2_with fail
      refine wp_named fun a0 ha0 => ?_
      have o0 := old_at ha0 (t := 0) rfl
      refine wp_region_lin (S := BSt wz 0 3 1 (.slice ab nb cb) nb (B.map (Value.int .i64)) [.int .i64 (na : Int)] [] s 2 #[.int .i64 (mo : Int), .slice aa na ca, .slice ab nb cb, vs, vw] 54 4 10 11 99 14) [10, 11] (fun _ => 0) (by kernel_rfl) (by kernel_rfl) (by rw [← ha0]; kernel_rfl) (BSt.start (x := wz.drew) ⟨rfl, rfl, rfl, rfl⟩) ?_
      refine' LinAll.cons _ ?_ ?_ ?_
      rotate_left 1
      · intro g L a x hLi haft hS hK
        have t0 := (hK.old 0 (by kernel_rfl)).trans o0
        (try dsimp only at t0)
        refine go_in (wanted_all rfl) ?_
        intro K hk
        clear haft hK hLi
        go_simp
        exact hk.out g x (fun _ _ => rfl) (hS.go rfl)
      · intro i hi; exact Or.inl (fun _ _ _ => rfl)
      refine' LinAll.cons _ ?_ ?_ ?_
      rotate_left 1
      · intro g L a x hLi haft hS hK
        have t0 := (hK.old 0 (by kernel_rfl)).trans o0
        (try dsimp only at t0)
        refine go_in (wanted_all rfl) ?_
        intro K hk
        clear haft hK hLi
        go_simp
        exact hk.out g x (fun _ _ => rfl) (hS.go rfl)
      · intro i hi; exact Or.inl (fun _ _ _ => rfl)
      refine' LinAll.cons _ ?_ ?_ ?_
      rotate_left 1
      · intro g L a x hLi haft hS hK
        have t29 := hK.new 1 0 _ 29 _ rfl rfl rfl (by kernel_rfl) (waits haft 1 (by kernel_rfl))
        (try dsimp only at t29)
        refine go_in (wanted_all rfl) ?_
        intro K hk
        clear haft hK hLi
        go_simp
        exact hk.out g x (fun _ _ => rfl) (hS.go rfl)
      · intro i hi; exact Or.inl (fun _ _ _ => rfl)
      refine' LinAll.cons _ ?_ ?_ ?_
      rotate_left 1
      · intro g L a x hLi haft hS hK
        have t30 := hK.new 2 0 _ 30 _ rfl rfl rfl (by kernel_rfl) (waits haft 2 (by kernel_rfl))
        (try dsimp only at t30)
        refine go_in (wanted_all rfl) ?_
        intro K hk
        clear haft hK hLi
        go_simp
        exact hk.out g x (fun _ _ => rfl) (hS.go rfl)
      · intro i hi; exact Or.inl (fun _ _ _ => rfl)
      refine' LinAll.cons _ ?_ ?_ ?_
      rotate_left 1
      · intro g L a x hLi haft hS hK
        have t31 := hK.new 3 0 _ 31 _ rfl rfl rfl (by kernel_rfl) (waits haft 3 (by kernel_rfl))
        (try dsimp only at t31)
        obtain ⟨na, ns⟩ := hS.noa hLi
        have c1 : x.cell? ⟨s, 2, none⟩ = some (.slice ab nb cb) := cell_of ((hS.kp s hsz (fun _ => hsv) (fun e => by rw [ns] at e; cases e)).trans HHD.out) 2 rfl
        clear na ns
        refine go_in (wanted_all rfl) ?_
        intro K hk
        clear haft hK hLi
        go_simp
        exact hk.out g x (fun _ _ => rfl) (hS.go rfl)
      · intro i hi; exact Or.inl (fun _ _ _ => rfl)
      refine' LinAll.cons _ ?_ ?_ ?_
      rotate_left 1
      · intro g L a x hLi haft hS hK
        have t0 := (hK.old 0 (by kernel_rfl)).trans o0
        (try dsimp only at t0)
        refine go_in (wanted_all rfl) ?_
        intro K hk
        clear haft hK hLi
        go_simp
        exact hk.out g x (fun _ _ => rfl) (hS.go rfl)
      · intro i hi; exact Or.inl (fun _ _ _ => rfl)
      refine' LinAll.cons _ ?_ ?_ ?_
      rotate_left 1
      · intro g L a x hLi haft hS hK
        have t33 := hK.new 5 0 _ 33 _ rfl rfl rfl (by kernel_rfl) (waits haft 5 (by kernel_rfl))
        (try dsimp only at t33)
        refine go_in (wanted_all rfl) ?_
        intro K hk
        clear haft hK hLi
        go_simp
        exact hk.out g x (fun _ _ => rfl) (hS.go rfl)
      · intro i hi; exact Or.inl (fun _ _ _ => rfl)
      refine' LinAll.cons _ ?_ ?_ ?_
      rotate_left 1
      · intro g L a x hLi haft hS hK
        have t34 := hK.new 6 0 _ 34 _ rfl rfl rfl (by kernel_rfl) (waits haft 6 (by kernel_rfl))
        (try dsimp only at t34)
        refine go_in (wanted_all rfl) ?_
        intro K hk
        clear haft hK hLi
        go_simp
        exact hk.out g x (fun _ _ => rfl) (hS.go rfl)
      · intro i hi; exact Or.inl (fun _ _ _ => rfl)
      refine' LinAll.cons _ ?_ ?_ ?_
      rotate_left 1
      · intro g L a x hLi haft hS hK
        have t35 := hK.new 7 0 _ 35 _ rfl rfl rfl (by kernel_rfl) (waits haft 7 (by kernel_rfl))
        (try dsimp only at t35)
        have c1 : x.cell? ⟨s, 1, none⟩ = some (.slice aa na ca) := by
          cases e : L 14
          · exact cell_of ((hS.kp s hsz (fun _ => hsv) (fun e2 => by rw [e] at e2; cases e2)).trans HHD.out) 1 rfl
          · exact cell_of (hS.rs e) 1 rfl
        refine go_in (wanted_all rfl) ?_
        intro K hk
        clear haft hK hLi
        go_simp
        exact hk.out g x (fun _ _ => rfl) (hS.go rfl)
      · intro i hi; exact Or.inl (fun _ _ _ => rfl)
      refine' LinAll.cons _ ?_ ?_ ?_
      rotate_left 1
      · intro g L a x hLi haft hS hK
        have t36 := hK.new 8 0 _ 36 _ rfl rfl rfl (by kernel_rfl) (waits haft 8 (by kernel_rfl))
        (try dsimp only at t36)
        refine go_in (wanted_all rfl) ?_
        intro K hk
        clear haft hK hLi
        go_simp
        exact hk.out g x (fun _ _ => rfl) (hS.go rfl)
      · intro i hi; exact Or.inl (fun _ _ _ => rfl)
      refine LinAll.cons (fun g => .slice (some ⟨g 10, 0, none⟩) 1 1) ?_ ?_ ?_
      · intro g L a x hLi haft hS hK
        have t37 := hK.new 9 0 _ 37 _ rfl rfl rfl (by kernel_rfl) (waits haft 9 (by kernel_rfl))
        (try dsimp only at t37)
        refine go_in (wanted_all rfl) ?_
        intro K hk
        clear haft hK
        go_simp
        have hq := hk.out (updG g 10 x.heap.size) _ (updG_al (by rfl)) (hS.built hLi (by decide))
        dsimp only at hq
        rw [updG_eq] at hq
        exact hq
      · intro i hi; simp only [List.mem_cons, List.not_mem_nil, or_false] at hi; rcases hi with rfl | rfl; exact Or.inr (by kernel_rfl); exact Or.inl (fun g g' h => by simp only [h 10 (by decide)])
      refine LinAll.cons (fun g => sl (nb + 1) (g 11)) ?_ ?_ ?_
      · intro g L a x hLi haft hS hK
        have t32 := hK.new 4 6 _ 32 _ rfl rfl rfl (by kernel_rfl) (waits haft 4 (by kernel_rfl))
        have t38 := hK.new 10 0 _ 38 _ rfl rfl rfl (by kernel_rfl) (waits haft 10 (by kernel_rfl))
        (try dsimp only at t32 t38)
        have hLl := waits haft 4 (by kernel_rfl)
        have hLb := waits haft 10 (by kernel_rfl)
        have his : L 14 = false := by
          cases e : L 14
          · rfl
          · rw [hS.d3 e] at hLi; cases hLi
        have hrow := row_own HW.out (fun k hk => hS.kp k (HW.out.lt k hk).2 (fun e => by rw [hLi] at e; cases e) (fun e => by rw [his] at e; cases e))
        have hsb := hS.sb hLb hLi
        refine go_in (wanted_all rfl) ?_
        intro K hk
        refine wp_append_at _ (.tmp 32) (.tmp 38) 27 rfl 0 3 ti _ 1 8 underInts HI0.out.1 HI0.out.2.1 HI0.out.2.2.1 HI0.out.2.2.2 rfl (by decide) _ nb _ (eval_tmp t32) hrow ⟨g 10, 0, none⟩ 1 1 [.int .i64 (na : Int)] (eval_tmp t38) rfl (fun j u hj => by
            have e : (⟨g 10, 0, none⟩ : Addr).add j = ⟨g 10, j, none⟩ := by simp [Addr.add]; try (intro hq; exact hq.symm)
            rw [e]; exact cell_of hsb.1 j (by simpa using hj)) (ones [(na : Int)]) (by unfold maxLen; omega) (by omega) (by have := hS.siz; omega) ?_
        intro v' y hown hgrow hat
        obtain ⟨p, rfl⟩ := sl_own hown (by omega)
        have hq := hk.out (updG g 11 p) y (updG_al (by rfl)) (hS.app hLl hLb hLi (by decide) HBV.out hgrow hown hat)
        dsimp only at hq
        rw [updG_eq] at hq
        exact hq
      · intro i hi; simp only [List.mem_cons, List.not_mem_nil, or_false] at hi; rcases hi with rfl | rfl; exact Or.inl (fun g g' h => by simp only [h 11 (by decide)]); exact Or.inr (by kernel_rfl)
      refine' LinAll.cons _ ?_ ?_ ?_
      rotate_left 1
      · intro g L a x hLi haft hS hK
        have t28 := hK.new 0 11 _ 28 _ rfl rfl rfl (by kernel_rfl) (waits haft 0 (by kernel_rfl))
        (try dsimp only at t28)
        refine go_in (wanted_all rfl) ?_
        intro K hk
        clear haft hK hLi
        go_simp
        exact hk.out g x (fun _ _ => rfl) (hS.go rfl)
      · intro i hi; exact Or.inl (fun _ _ _ => rfl)
      refine' LinAll.cons _ ?_ ?_ ?_
      rotate_left 1
      · intro g L a x hLi haft hS hK
        have t40 := hK.new 12 0 _ 40 _ rfl rfl rfl (by kernel_rfl) (waits haft 12 (by kernel_rfl))
        (try dsimp only at t40)
        refine go_in (wanted_all rfl) ?_
        intro K hk
        clear haft hK hLi
        go_simp
        exact hk.out g x (fun _ _ => rfl) (hS.go rfl)
      · intro i hi; exact Or.inl (fun _ _ _ => rfl)
      refine LinAll.cons (fun _ => undef) ?_ ?_ ?_
      · intro g L a x hLi haft hS hK
        have t39 := hK.new 11 2 _ 39 _ rfl rfl rfl (by kernel_rfl) (waits haft 11 (by kernel_rfl))
        have t41 := hK.new 13 0 _ 41 _ rfl rfl rfl (by kernel_rfl) (waits haft 13 (by kernel_rfl))
        (try dsimp only at t39 t41)
        have hLa := waits haft 11 (by kernel_rfl)
        have hh := (hS.kp s hsz (fun _ => hsv) (fun e => by rw [hLi] at e; cases e)).trans HHD.out
        have c1 : x.cell? ⟨s, 2, none⟩ = some (.slice ab nb cb) := cell_of hh 2 rfl
        have f1 : x.frozen? ⟨s, 2, none⟩ = false := by simp [World.frozen?, hh]
        have hnew := hS.store hLa hLi (by decide) HVR.out hsz HHD.out
        unfold sl at t39
        refine go_in (wanted_all rfl) ?_
        intro K hk
        clear haft hK hLi hLa hh
        go_simp
        exact hk.out g _ (fun _ _ => rfl) hnew
      · intro i hi; exact Or.inl (fun _ _ _ => rfl)
      refine LinAll.nil fun g x hS => ?_
      subst ha0
      simp only [Act.put, List.setIfInBounds_toArray, List.set_cons_zero, List.set_cons_succ]
      clear o0
      have HSE : Hid _ := hS
      clear hS
      go_wp2_with fail
      go_end0
      have hS := HSE.out
      rw [HNB.out] at hS
      obtain ⟨e1, e2⟩ := HSZ.out.bounds (by rw [HNB.out]; exact hS.ap (by decide) (by decide) (by decide))
      have e3 : A ++ [0, 1] ++ c = A ++ 0 :: 1 :: c := by simp
      rw [HNA.out, e3] at e1
      exact ⟨rfl, _, ⟨_, _, _, _, _, e1⟩, (HC.out.trans HCZ.out).trans e2⟩
end Go.Proofs.Ytkndjndhjdfhcaa
