/- Contracts (sexp): a bracket opens. (Made by a script.) -/
import Derived.Test.YtikdjloedeinhaaDoorSX10
namespace Go.Proofs.YtikdjloedeinhaaDoor
open Go.RowKit
set_option linter.unusedSimpArgs false
set_option linter.unusedVariables false

/-- One more open list. -/
theorem Os.push {x z : World} {D : Nat → Prop} {B n co : Nat} {ao : Option Addr} {O : TypeId} {sz : Nat} {cs : Fm → List Value} {fs : List Fm} {f : Fm} {so' : Value} (h : Os x D B (.slice ao n co) O sz cs fs) (hf : f.v = .slice none 0 0 ∧ f.es = [])
    (hrow : z.ownsRow B O sz so' (fs ++ [f]).length ((fs ++ [f]).flatMap cs)) (hs : x.heap.size ≤ z.heap.size) (hnew : so'.ownBlock = (Value.slice ao n co).ownBlock ∨ ∃ b, so'.ownBlock = some b ∧ x.heap.size ≤ b)
    (hk : ∀ b, (some b ∈ fs.map (fun f => f.v.ownBlock) ∨ D b) → z.heap[b]? = x.heap[b]?) : Os z D B so' O sz cs (fs ++ [f]) := by
  have ha := h.apart
  rw [List.pairwise_cons] at ha
  have hlt : ∀ b, (some b ∈ fs.map (fun f => f.v.ownBlock) ∨ D b) → b < x.heap.size := fun b hb => (h.lt b (hb.imp (fun e => List.mem_cons_of_mem _ e) id)).2
  refine ⟨hrow, ?_, ?_, ?_, ?_, fun b hb => ⟨(h.done b hb).1, Nat.lt_of_lt_of_le (h.done b hb).2 hs⟩⟩
  · intro g hg
    rcases List.mem_append.1 hg with hg | hg
    · exact row_own (h.own g hg) (fun k e => hk k (Or.inl (by rw [← e]; exact List.mem_map.2 ⟨g, hg, rfl⟩)))
    · rw [List.mem_singleton.1 hg, hf.1, hf.2]; exact World.ownsRow_nil _ _ _ _
  · intro g hg e he
    rcases List.mem_append.1 hg with hg | hg
    · exact (h.kid g hg e he).keep (fun b hb => hk b (Or.inr hb)) (fun _ h => h)
    · rw [List.mem_singleton.1 hg, hf.2] at he; cases he
  · rw [List.map_append, List.map_singleton, List.pairwise_cons, List.pairwise_append, hf.1]
    refine ⟨?_, ha.2, List.pairwise_singleton _ _, ?_⟩
    · intro a hm
      rcases List.mem_append.1 hm with hm | hm
      · rcases hnew with e | ⟨b, e, hb⟩
        · rw [e]; exact ha.1 a hm
        · rw [e]; right
          intro e2
          have := hlt b (Or.inl (by rw [e2]; exact hm))
          omega
      · rw [List.mem_singleton.1 hm]
        cases e : so'.ownBlock with
        | none => exact Or.inl rfl
        | some b => exact Or.inr (fun e2 => by cases e2)
    · intro a hm b hb
      rw [List.mem_singleton.1 hb]
      cases a with
      | none => exact Or.inl rfl
      | some b => exact Or.inr (fun e2 => by cases e2)
  · intro b hb
    rw [List.map_append, List.map_singleton, hf.1] at hb
    rcases List.mem_cons.1 hb with e | hb
    · rcases hnew with e2 | ⟨b', e2, hb'⟩
      · exact h.live b (by rw [e, e2]; simp)
      · intro hd
        rw [e2] at e
        injection e with e
        have := (h.done b hd).2
        omega
    · rcases List.mem_append.1 hb with hb | hb
      · exact h.live b (List.mem_cons_of_mem _ hb)
      · have e2 := List.mem_singleton.1 hb
        cases e2

set_option maxRecDepth 20000 in
set_option maxHeartbeats 12800000 in
theorem openB_any {w : World} {D : Nat → Prop} {B p : Nat} {t : ByteArray} {k : Nat} {so : Value} {fs : List Fm} (h : Pz w D B p t k so fs) (hne : fs ≠ []) (hB : B ≤ w.heap.size) (hk : k < t.size) (ht : t.size ≤ 65536) (hdeep : fs.length ≤ 201) :
    Calls Tryd.prog 52 #[.pointer (some ⟨p, 0, none⟩)] w fun ev w' => (fs.length = 201 ∧ ev = .returned (.int .i64 23) ∧ w' = w) ∨ (¬ fs.length = 201 ∧ ev = .returned (.int .i64 0) ∧ (∃ so', Pz w' D B p t (k + 1) so' (fs ++ [⟨k, .slice none 0 0, []⟩])) ∧ Below B w w') := by
  obtain ⟨R, co, rfl, hBR, hRw, hcap⟩ := h.os.sl hne
  obtain ⟨ao, hao⟩ : ∃ ao : Option Addr, ao = some ⟨R, 0, none⟩ := ⟨_, rfl⟩
  rw [← hao] at h
  obtain ⟨n, hn⟩ : ∃ n, n = fs.length := ⟨_, rfl⟩
  rw [← hn] at h
  have HN : Hid _ := hn
  have HAO : Hid _ := hao
  have H : Hid _ := h
  have c2 := h.c2
  have c1 := h.cu.c1
  have HD : Hid (Calls Tryd.prog 38 #[.pointer (some ⟨p, 0, none⟩)] w fun e w' => e = .returned (.int .i64 ((n : Int) - 1)) ∧ w' = w) := depth_any c2 (by omega)
  have HHD : Hid (w.heap[p]? = some (.cells #[.string t, .int .i64 (k : Int), .slice ao n co] 54 (0, 0))) := h.cu.hd
  have hpl := h.cu.lt
  have hout := h.out
  simp only [List.mem_cons, not_or] at hout
  have hpv : some p ≠ (Value.slice ao n co).ownBlock := hout.1
  have HVR : Hid ((Value.slice ao n co).ownBlock ≠ some p) := fun e => hpv e.symm
  have HW : Hid (w.ownsRow B 76 2 (.slice ao n co) n (fs.flatMap Fm.cs)) := by rw [hn]; rw [← hn]; have := h.os.row; rw [← hn] at this; exact this
  have HBV : Hid (∀ k, (Value.slice ao n co).ownBlock = some k → k < w.heap.size) := fun k hk => (h.os.row.lt k hk).2
  obtain ⟨ti, ht0, hz0, hz1, hz2⟩ := info_any infoO
  have HI0 : Hid _ := (⟨ht0, hz0, hz1, hz2⟩ : Tryd.prog.info? 76 = some ti ∧ ti.zero = _ ∧ ti.size = 2 ∧ ti.bytes = 32)
  have hn201 : n ≤ 201 := by omega
  rw [← hn]
  clear h hao hn hne hout ht0 hz0 hz1 hz2 hdeep hcap
  by_cases h2 : n = 201
  · subst h2
    go_enter Tryd.func52, Tryd.ntmps52
    go_wp2_with fail
    refine Calls.mono HD.out ?_
    rintro ev w1 ⟨rfl, hw1⟩
    rw [hw1]
    clear hw1 w1
    go_wp2_with fail
    go_ret
    exact Or.inl ⟨by first | rfl | trivial, rfl, rfl⟩
  · have hbn : (((n : Int) - 1) == 200) = false := by simp; omega
    have HNE : Hid _ := h2
    clear h2
    go_enter Tryd.func52, Tryd.ntmps52
    go_wp2_with fail
    refine Calls.mono HD.out ?_
    rintro ev w1 ⟨rfl, hw1⟩
    rw [hw1]
    clear hw1 w1 HD
    go_wp2_with fail
    clear c1 c2 hbn
    refine wp_named fun a0 ha0 => ?_
    have o0 := old_at ha0 (t := 0) rfl
    refine wp_region_lin (S := BSt w B 76 2 (.slice ao n co) n (fs.flatMap Fm.cs) [.int .i64 (k : Int), .slice none 0 0] [] p 2 #[.string t, .int .i64 (k : Int), .slice ao n co] 54 4 12 13 99 16) [12, 13] (fun _ => 0) (by kernel_rfl) (by kernel_rfl) (by rw [← ha0]; kernel_rfl) (BSt.start (x := w.drew) ⟨rfl, rfl, rfl, rfl⟩) ?_
    refine' LinAll.cons _ ?_ ?_ ?_
    rotate_left 1
    · intro g L a x hLi haft hS hK
      have t0 := (hK.old 0 (by kernel_rfl)).trans o0
      (try dsimp only at t0)
      refine go_in (wanted_all rfl) ?_
      intro K hk
      clear haft hK hLi
      go_simp
      exact hk.out g x (fun _ _ => rfl) (hS.go rfl)
    · intro i hi; exact Or.inl (fun _ _ _ => rfl)
    refine' LinAll.cons _ ?_ ?_ ?_
    rotate_left 1
    · intro g L a x hLi haft hS hK
      have t0 := (hK.old 0 (by kernel_rfl)).trans o0
      (try dsimp only at t0)
      refine go_in (wanted_all rfl) ?_
      intro K hk
      clear haft hK hLi
      go_simp
      exact hk.out g x (fun _ _ => rfl) (hS.go rfl)
    · intro i hi; exact Or.inl (fun _ _ _ => rfl)
    refine' LinAll.cons _ ?_ ?_ ?_
    rotate_left 1
    · intro g L a x hLi haft hS hK
      have t7 := hK.new 1 0 _ 7 _ rfl rfl rfl (by kernel_rfl) (waits haft 1 (by kernel_rfl))
      (try dsimp only at t7)
      refine go_in (wanted_all rfl) ?_
      intro K hk
      clear haft hK hLi
      go_simp
      exact hk.out g x (fun _ _ => rfl) (hS.go rfl)
    · intro i hi; exact Or.inl (fun _ _ _ => rfl)
    refine' LinAll.cons _ ?_ ?_ ?_
    rotate_left 1
    · intro g L a x hLi haft hS hK
      have t8 := hK.new 2 0 _ 8 _ rfl rfl rfl (by kernel_rfl) (waits haft 2 (by kernel_rfl))
      (try dsimp only at t8)
      refine go_in (wanted_all rfl) ?_
      intro K hk
      clear haft hK hLi
      go_simp
      exact hk.out g x (fun _ _ => rfl) (hS.go rfl)
    · intro i hi; exact Or.inl (fun _ _ _ => rfl)
    refine' LinAll.cons _ ?_ ?_ ?_
    rotate_left 1
    · intro g L a x hLi haft hS hK
      have t9 := hK.new 3 0 _ 9 _ rfl rfl rfl (by kernel_rfl) (waits haft 3 (by kernel_rfl))
      (try dsimp only at t9)
      obtain ⟨na, ns⟩ := hS.noa hLi
      have c1 : x.cell? ⟨p, 2, none⟩ = some (.slice ao n co) := cell_of ((hS.kp p hpl (fun _ => hpv) (fun e => by rw [ns] at e; cases e)).trans HHD.out) 2 rfl
      clear na ns
      refine go_in (wanted_all rfl) ?_
      intro K hk
      clear haft hK hLi
      go_simp
      exact hk.out g x (fun _ _ => rfl) (hS.go rfl)
    · intro i hi; exact Or.inl (fun _ _ _ => rfl)
    refine' LinAll.cons _ ?_ ?_ ?_
    rotate_left 1
    · intro g L a x hLi haft hS hK
      have t0 := (hK.old 0 (by kernel_rfl)).trans o0
      (try dsimp only at t0)
      refine go_in (wanted_all rfl) ?_
      intro K hk
      clear haft hK hLi
      go_simp
      exact hk.out g x (fun _ _ => rfl) (hS.go rfl)
    · intro i hi; exact Or.inl (fun _ _ _ => rfl)
    refine' LinAll.cons _ ?_ ?_ ?_
    rotate_left 1
    · intro g L a x hLi haft hS hK
      have t11 := hK.new 5 0 _ 11 _ rfl rfl rfl (by kernel_rfl) (waits haft 5 (by kernel_rfl))
      (try dsimp only at t11)
      refine go_in (wanted_all rfl) ?_
      intro K hk
      clear haft hK hLi
      go_simp
      exact hk.out g x (fun _ _ => rfl) (hS.go rfl)
    · intro i hi; exact Or.inl (fun _ _ _ => rfl)
    refine' LinAll.cons _ ?_ ?_ ?_
    rotate_left 1
    · intro g L a x hLi haft hS hK
      have t12 := hK.new 6 0 _ 12 _ rfl rfl rfl (by kernel_rfl) (waits haft 6 (by kernel_rfl))
      (try dsimp only at t12)
      refine go_in (wanted_all rfl) ?_
      intro K hk
      clear haft hK hLi
      go_simp
      exact hk.out g x (fun _ _ => rfl) (hS.go rfl)
    · intro i hi; exact Or.inl (fun _ _ _ => rfl)
    refine' LinAll.cons _ ?_ ?_ ?_
    rotate_left 1
    · intro g L a x hLi haft hS hK
      have t13 := hK.new 7 0 _ 13 _ rfl rfl rfl (by kernel_rfl) (waits haft 7 (by kernel_rfl))
      (try dsimp only at t13)
      refine go_in (wanted_all rfl) ?_
      intro K hk
      clear haft hK hLi
      go_simp
      exact hk.out g x (fun _ _ => rfl) (hS.go rfl)
    · intro i hi; exact Or.inl (fun _ _ _ => rfl)
    refine' LinAll.cons _ ?_ ?_ ?_
    rotate_left 1
    · intro g L a x hLi haft hS hK
      have t14 := hK.new 8 0 _ 14 _ rfl rfl rfl (by kernel_rfl) (waits haft 8 (by kernel_rfl))
      (try dsimp only at t14)
      refine go_in (wanted_all rfl) ?_
      intro K hk
      clear haft hK hLi
      go_simp
      exact hk.out g x (fun _ _ => rfl) (hS.go rfl)
    · intro i hi; exact Or.inl (fun _ _ _ => rfl)
    refine' LinAll.cons _ ?_ ?_ ?_
    rotate_left 1
    · intro g L a x hLi haft hS hK
      have t15 := hK.new 9 0 _ 15 _ rfl rfl rfl (by kernel_rfl) (waits haft 9 (by kernel_rfl))
      (try dsimp only at t15)
      have c1 : x.cell? ⟨p, 1, none⟩ = some (.int .i64 (k : Int)) := by
          cases e : L 16
          · exact cell_of ((hS.kp p hpl (fun _ => hpv) (fun e2 => by rw [e] at e2; cases e2)).trans HHD.out) 1 rfl
          · exact cell_of (hS.rs e) 1 rfl
      refine go_in (wanted_all rfl) ?_
      intro K hk
      clear haft hK hLi
      go_simp
      exact hk.out g x (fun _ _ => rfl) (hS.go rfl)
    · intro i hi; exact Or.inl (fun _ _ _ => rfl)
    refine' LinAll.cons _ ?_ ?_ ?_
    rotate_left 1
    · intro g L a x hLi haft hS hK
      have t16 := hK.new 10 0 _ 16 _ rfl rfl rfl (by kernel_rfl) (waits haft 10 (by kernel_rfl))
      (try dsimp only at t16)
      refine go_in (wanted_all rfl) ?_
      intro K hk
      clear haft hK hLi
      go_simp
      exact hk.out g x (fun _ _ => rfl) (hS.go rfl)
    · intro i hi; exact Or.inl (fun _ _ _ => rfl)
    refine LinAll.cons (fun g => .slice (some ⟨g 12, 0, none⟩) 1 1) ?_ ?_ ?_
    · intro g L a x hLi haft hS hK
      have t17 := hK.new 11 0 _ 17 _ rfl rfl rfl (by kernel_rfl) (waits haft 11 (by kernel_rfl))
      (try dsimp only at t17)
      refine go_in (wanted_all rfl) ?_
      intro K hk
      clear haft hK
      go_simp
      have hq := hk.out (updG g 12 x.heap.size) _ (updG_al (by rfl)) (hS.built hLi (by decide))
      dsimp only at hq
      rw [updG_eq] at hq
      exact hq
    · intro i hi; simp only [List.mem_cons, List.not_mem_nil, or_false] at hi; rcases hi with rfl | rfl; exact Or.inr (by kernel_rfl); exact Or.inl (fun g g' h => by simp only [h 12 (by decide)])
    refine LinAll.cons (fun g => sl (n + 1) (g 13)) ?_ ?_ ?_
    · intro g L a x hLi haft hS hK
      have t10 := hK.new 4 8 _ 10 _ rfl rfl rfl (by kernel_rfl) (waits haft 4 (by kernel_rfl))
      have t18 := hK.new 12 0 _ 18 _ rfl rfl rfl (by kernel_rfl) (waits haft 12 (by kernel_rfl))
      (try dsimp only at t10 t18)
      have hLl := waits haft 4 (by kernel_rfl)
      have hLb := waits haft 12 (by kernel_rfl)
      have his : L 16 = false := by
        cases e : L 16
        · rfl
        · rw [hS.d3 e] at hLi; cases hLi
      have hrow := row_own HW.out (fun k hk => hS.kp k (HW.out.lt k hk).2 (fun e => by rw [hLi] at e; cases e) (fun e => by rw [his] at e; cases e))
      have hsb := hS.sb hLb hLi
      refine go_in (wanted_all rfl) ?_
      intro K hk
      refine wp_append_at _ (.tmp 10) (.tmp 18) 52 rfl B 76 ti _ 2 32 underO HI0.out.1 HI0.out.2.1 HI0.out.2.2.1 HI0.out.2.2.2 rfl (by decide) _ n _ (eval_tmp t10) hrow ⟨g 12, 0, none⟩ 1 1 [.int .i64 (k : Int), .slice none 0 0] (eval_tmp t18) rfl (fun j u hj => by
          have e : (⟨g 12, 0, none⟩ : Addr).add j = ⟨g 12, j, none⟩ := by simp [Addr.add]; try (intro hq; exact hq.symm)
          rw [e]; exact cell_of hsb.1 j (by simpa using hj)) (by intro u hu; simp at hu; rcases hu with rfl | rfl <;> rfl) (by unfold maxLen; omega) (by omega) (by have := hS.siz; omega) ?_
      intro v' y hown hgrow hat
      obtain ⟨p, rfl⟩ := sl_own hown (by omega)
      have hq := hk.out (updG g 13 p) y (updG_al (by rfl)) (hS.app hLl hLb hLi (by decide) HBV.out hgrow hown hat)
      dsimp only at hq
      rw [updG_eq] at hq
      exact hq
    · intro i hi; simp only [List.mem_cons, List.not_mem_nil, or_false] at hi; rcases hi with rfl | rfl; exact Or.inl (fun g g' h => by simp only [h 13 (by decide)]); exact Or.inr (by kernel_rfl)
    refine' LinAll.cons _ ?_ ?_ ?_
    rotate_left 1
    · intro g L a x hLi haft hS hK
      have t6 := hK.new 0 13 _ 6 _ rfl rfl rfl (by kernel_rfl) (waits haft 0 (by kernel_rfl))
      (try dsimp only at t6)
      refine go_in (wanted_all rfl) ?_
      intro K hk
      clear haft hK hLi
      go_simp
      exact hk.out g x (fun _ _ => rfl) (hS.go rfl)
    · intro i hi; exact Or.inl (fun _ _ _ => rfl)
    refine' LinAll.cons _ ?_ ?_ ?_
    rotate_left 1
    · intro g L a x hLi haft hS hK
      have t20 := hK.new 14 0 _ 20 _ rfl rfl rfl (by kernel_rfl) (waits haft 14 (by kernel_rfl))
      (try dsimp only at t20)
      refine go_in (wanted_all rfl) ?_
      intro K hk
      clear haft hK hLi
      go_simp
      exact hk.out g x (fun _ _ => rfl) (hS.go rfl)
    · intro i hi; exact Or.inl (fun _ _ _ => rfl)
    refine LinAll.cons (fun _ => undef) ?_ ?_ ?_
    · intro g L a x hLi haft hS hK
      have t19 := hK.new 13 2 _ 19 _ rfl rfl rfl (by kernel_rfl) (waits haft 13 (by kernel_rfl))
      have t21 := hK.new 15 0 _ 21 _ rfl rfl rfl (by kernel_rfl) (waits haft 15 (by kernel_rfl))
      (try dsimp only at t19 t21)
      have hLa := waits haft 13 (by kernel_rfl)
      have hh := (hS.kp p hpl (fun _ => hpv) (fun e => by rw [hLi] at e; cases e)).trans HHD.out
      have c1 : x.cell? ⟨p, 2, none⟩ = some (.slice ao n co) := cell_of hh 2 rfl
      have f1 : x.frozen? ⟨p, 2, none⟩ = false := by simp [World.frozen?, hh]
      have hnew := hS.store hLa hLi (by decide) HVR.out hpl HHD.out
      unfold sl at t19
      refine go_in (wanted_all rfl) ?_
      intro K hk
      clear haft hK hLi hLa hh
      go_simp
      exact hk.out g _ (fun _ _ => rfl) hnew
    · intro i hi; exact Or.inl (fun _ _ _ => rfl)
    refine LinAll.nil fun g x hS => ?_
    subst ha0
    simp only [Act.put, List.setIfInBounds_toArray, List.set_cons_zero, List.set_cons_succ]
    clear o0
    have HS : Hid _ := hS
    have hs := hS
    obtain ⟨hra, hat⟩ := hs.ra rfl
    have hrs := hs.rs rfl
    have hl : (fs ++ [(⟨k, .slice none 0 0, []⟩ : Fm)]).length = n + 1 := by rw [List.length_append, HN.out]; rfl
    have hfl : (fs ++ [(⟨k, .slice none 0 0, []⟩ : Fm)]).flatMap Fm.cs = fs.flatMap Fm.cs ++ [.int .i64 (k : Int), .slice none 0 0] := by rw [List.flatMap_append]; simp [Fm.cs]
    have hlt := H.out.os.lt
    have hkp : ∀ b, b < w.heap.size → some b ≠ (Value.slice ao n co).ownBlock → b ≠ p → x.heap[b]? = w.heap[b]? := fun b hb h1 h2 => hs.kp b hb (fun _ => h1) (fun _ => h2)
    have ha := H.out.os.apart
    rw [List.pairwise_cons] at ha
    have hO : Os x D B (sl (n + 1) (g 13)) 76 2 Fm.cs (fs ++ [⟨k, .slice none 0 0, []⟩]) := by
      refine H.out.os.push ⟨rfl, rfl⟩ ?_ hs.siz hat ?_
      · rw [hl, hfl]; exact hra
      · intro b hb
        have hb2 := hlt b (hb.imp (fun e => List.mem_cons_of_mem _ e) id)
        refine hkp b hb2.2 ?_ ?_
        · intro e
          rcases hb with hb | hb
          · rcases ha.1 _ hb with h1 | h1
            · rw [← e] at h1; cases h1
            · exact h1 e.symm
          · exact H.out.os.live b (by rw [e]; simp) hb
        · intro e
          subst e
          rcases hb with hb | hb
          · exact H.out.out (List.mem_cons_of_mem _ hb)
          · exact H.out.nd hb
    have hP : Pz x D B p t k (sl (n + 1) (g 13)) (fs ++ [⟨k, .slice none 0 0, []⟩]) := by
      refine ⟨⟨hrs⟩, hO, ?_, H.out.nd, H.out.bp⟩
      intro hm
      rw [List.map_append] at hm
      rcases List.mem_cons.1 hm with e | hm
      · rcases hat with e2 | ⟨b, e2, hb⟩
        · rw [e2] at e; exact hpv e
        · rw [e2] at e; injection e with e; omega
      · rcases List.mem_append.1 hm with hm | hm
        · exact H.out.out (List.mem_cons_of_mem _ hm)
        · have e2 := List.mem_singleton.1 hm
          cases e2
    have hb1 : Below B w x := ⟨hs.os, hs.tape, hs.output, hs.siz, fun b hb => hkp b (by omega) (fun e => by have := (H.out.os.row.lt b e.symm).1; omega) (by have := H.out.bp; omega)⟩
    have HP : Hid _ := hP
    have HB1 : Hid _ := hb1
    clear hS hs hra hat hrs hl hfl hlt hkp ha hO hP hb1
    go_wp2_with fail
    refine Calls.mono (step_any HP.out.cu (by omega)) ?_
    rintro ev w2 ⟨rfl, hcu, hon⟩
    go_wp2_with fail
    go_ret
    have hbp := HP.out.bp
    exact Or.inr ⟨HNE.out, rfl, ⟨_, HP.out.on hcu hon.grown⟩, on_below HB1.out hon hbp⟩
end Go.Proofs.YtikdjloedeinhaaDoor
