/- Readable lists of numbers; lists held against one another. · Contracts (the laws): the document's examples. · The document's examples stand. -/
import Derived.Test.YtkmkmgnfolpphaaDoorDE21
import Derived.Test.YtkmkmgnfolpphaaDoorDDA
namespace Go.Proofs.YtkmkmgnfolpphaaDoor
open Go.RowKit
set_option linter.unusedSimpArgs false
set_option linter.unusedVariables false

theorem own_slice {w : World} {B : Nat} {e : TypeId} {sz : Nat} {v : Value} {n : Nat} {xs : List Value} (h : w.ownsRow B e sz v n xs) : ∃ a k, v = .slice a n k := by
  rcases h.2 with ⟨e, h0⟩ | ⟨_, _, _, e, -⟩
  · exact ⟨_, _, by rw [e, h0]⟩
  · exact ⟨_, _, e⟩
/-- v is a slice of these numbers, wherever they lie. -/
structure Sr (w : World) (v : Value) (l : List Int) : Prop where
  ex : ∃ a c, v = .slice a l.length c ∧ (l = [] ∨ ∃ r o, a = some ⟨r, o, none⟩ ∧ r < w.heap.size ∧ Li w r o l)
theorem Li.below {w w' : World} {r o : Nat} {l : List Int} (h : Li w r o l) (hb : w'.heap[r]? = w.heap[r]?) : Li w' r o l := fun j hj => (World.cell?_of_block (a := ⟨r, o + j, none⟩) hb).trans (h j hj)
theorem Sr.kept {w w' : World} {v : Value} {l : List Int} (h : Sr w v l) (hs : w.heap.size ≤ w'.heap.size) (hb : ∀ a n c r, v = .slice a n c → a.map (·.block) = some r → w'.heap[r]? = w.heap[r]?) : Sr w' v l := by
  obtain ⟨a, c, rfl, h2⟩ := h.ex
  refine ⟨⟨a, c, rfl, ?_⟩⟩
  rcases h2 with h2 | ⟨r, o, ha, hr, h2⟩
  · exact Or.inl h2
  · exact Or.inr ⟨r, o, ha, Nat.lt_of_lt_of_le hr hs, h2.below (hb a _ _ r rfl (by rw [ha]; rfl))⟩
theorem Sr.below {w w' : World} {v : Value} {l : List Int} (h : Sr w v l) (hb : Below w.heap.size w w') : Sr w' v l := by
  obtain ⟨a, c, rfl, h2⟩ := h.ex
  refine ⟨⟨a, c, rfl, ?_⟩⟩
  rcases h2 with h2 | ⟨r, o, ha, hr, h2⟩
  · exact Or.inl h2
  · exact Or.inr ⟨r, o, ha, Nat.lt_of_lt_of_le hr hb.size, h2.below (hb.block r hr)⟩
theorem Is'.sr {w : World} {B : Nat} {v : Value} {l : List Int} (h : Is' w B v l) : Sr w v l := by
  obtain ⟨a, k, hv⟩ := own_slice h
  refine ⟨⟨a, k, hv, ?_⟩⟩
  by_cases hl : l = []
  · exact Or.inl hl
  · obtain ⟨r, cap, e, hb, -, hL⟩ := h.li hl
    refine Or.inr ⟨r, 0, ?_, ?_, hL⟩
    · rw [hv] at e; injection e
    · exact (World.ownsRow.lt h r (by rw [e]; rfl)).2
/-- The k-th number of a slice. -/
theorem Sr.at' {w wr : World} {a : Option Addr} {n c : Nat} {l : List Int} (h : Sr w (.slice a n c) l) (hb : Below w.heap.size w wr) {k : Nat} (hk : k < l.length) : ∃ r o, a = some ⟨r, o, none⟩ ∧ wr.cell? ⟨r, o + k, none⟩ = some (.int .i64 (l.getD k 0)) := by
  obtain ⟨a', c', e, h2⟩ := h.ex
  injection e with e1 e2 e3
  subst e1
  rcases h2 with h2 | ⟨r, o, ha, hr, h2⟩
  · subst h2; simp at hk
  · exact ⟨r, o, ha, bel_cell hb hr (h2 k hk)⟩
theorem Sr.len {w : World} {a : Option Addr} {n c : Nat} {l : List Int} (h : Sr w (.slice a n c) l) : n = l.length := by
  obtain ⟨a', c', e, -⟩ := h.ex
  injection e
theorem Sr.out {w : World} {v : Value} {l : List Int} (h : Sr w v l) : ∃ a c, v = .slice a l.length c := by
  obtain ⟨a', c', e, -⟩ := h.ex
  exact ⟨a', c', e⟩
theorem getD_mem {l : List Int} {k : Nat} (h : k < l.length) : l.getD k 0 ∈ l := by
  rw [List.getD_eq_getElem?_getD, List.getElem?_eq_getElem h]; exact List.getElem_mem h
set_option maxHeartbeats 3200000 in
theorem ints_sr {w : World} {u v : Value} {l m : List Int} (h : Sr w u l) (h' : Sr w v m) (hl : l.length ≤ 1000000) (hm : m.length ≤ 1000000) :
    Calls Tryd.prog 17 #[u, v] w fun e w' => e = .returned (.bool (decide (l = m))) ∧ Below w.heap.size w w' := by
  obtain ⟨a, c, rfl⟩ := h.out
  obtain ⟨a', c', rfl⟩ := h'.out
  have HC : Hid _ := h
  have HD : Hid _ := h'
  obtain ⟨n, hn⟩ : ∃ n, n = l.length := ⟨_, rfl⟩
  obtain ⟨n', hn'⟩ : ∃ n', n' = m.length := ⟨_, rfl⟩
  obtain ⟨r, hr⟩ : ∃ r, r = decide (l = m) := ⟨_, rfl⟩
  rw [← hn] at hl HC ⊢
  rw [← hn'] at hm HD ⊢
  rw [← hr]
  have HR : Hid _ := hr
  have HN : Hid _ := hn
  have HN' : Hid _ := hn'
  clear h h' hr hn hn'
  by_cases hne : (n : Int) = n'
  · obtain rfl : n = n' := by omega
    have z1 : ((n : Int) == n) = true := by simp
    have y1 : ((n : Int) != n) = false := by simp
    clear hne
    go_enter Tryd.func17, Tryd.ntmps17
    go_wp2_with fail
    go_loopw [5] (fun i wr => ∃ k : Nat, k ≤ n ∧ i = .int .i64 (k : Int) ∧ (∀ j, j < k → l.getD j 0 = m.getD j 0) ∧ Below w.heap.size w wr) (fun i wr => n - (intOf i).toNat)
    case atStart => exact ⟨0, Nat.zero_le _, rfl, (fun j hj => by omega), Below.refl _ _⟩
    case round =>
      obtain ⟨k, hk, rfl, hz, hbl⟩ := hrel
      have HZ : Hid _ := hz
      clear hz
      by_cases hlt : k < n
      · obtain ⟨g, o, rfl, hck⟩ := HC.out.at' hbl (k := k) (by rw [← HN.out]; exact hlt)
        obtain ⟨g', o', rfl, hcm⟩ := HD.out.at' hbl (k := k) (by rw [← HN'.out]; exact hlt)
        obtain ⟨s, hs⟩ : ∃ s, s = l.getD k 0 := ⟨_, rfl⟩
        obtain ⟨s', hs'⟩ : ∃ s', s' = m.getD k 0 := ⟨_, rfl⟩
        rw [← hs] at hck
        rw [← hs'] at hcm
        by_cases e : s = s'
        · have HB : Hid (l.getD k 0 = m.getD k 0) := by unfold Hid; rw [← hs, ← hs', e]
          subst e
          have y2 : (s != s) = false := by simp
          clear hs hs'
          go_wp2_with fail
          go_region_held3 (fun x => x.cell? ⟨g, o + k, none⟩ = some (.int .i64 s) ∧ x.cell? ⟨g', o' + k, none⟩ = some (.int .i64 s))
            ((refine ⟨?_, ?_⟩ <;> simp [go_sem, hck, hcm]))
            (fail)
          go_wp2_with fail
          refine ⟨⟨k + 1, by omega, by go_num, fun j hj => ?_, hbl.drew⟩, by simp [intOf]; omega⟩
          by_cases e : j = k
          · subst e; exact HB.out
          · exact HZ.out j (by omega)
        · have HB : Hid (¬ l.getD k 0 = m.getD k 0) := by unfold Hid; rw [← hs, ← hs']; exact e
          have hne : (s == s') = false := by simp [e]
          have hne2 : (s != s') = true := by simp [e]
          clear hs hs'
          go_wp2_with fail
          go_region_held3 (fun x => x.cell? ⟨g, o + k, none⟩ = some (.int .i64 s) ∧ x.cell? ⟨g', o' + k, none⟩ = some (.int .i64 s'))
            ((refine ⟨?_, ?_⟩ <;> simp [go_sem, hck, hcm]))
            (fail)
          go_wp2_with fail
          go_ret
          exact ⟨by rw [HR.out, show decide (l = m) = false by simp; intro q; exact HB.out (by rw [q])]; rfl, hbl.drew⟩
      · obtain rfl : k = n := by omega
        have HT : Hid (r = true) := by
          unfold Hid
          rw [HR.out, decide_eq_true_eq]
          refine List.ext_getElem (by rw [← HN.out, ← HN'.out]) fun j h1 h2 => ?_
          have := HZ.out j (by rw [HN.out]; exact h1)
          rwa [List.getD_eq_getElem?_getD, List.getD_eq_getElem?_getD, List.getElem?_eq_getElem h1, List.getElem?_eq_getElem h2] at this
        go_wp2_with fail
        go_ret
        exact ⟨by rw [HT.out]; rfl, hbl⟩
  · have z1 : ((n : Int) == n') = false := by simp [hne]
    have y1 : ((n : Int) != n') = true := by simp [hne]
    go_enter Tryd.func17, Tryd.ntmps17
    go_wp2_with fail
    go_ret
    exact ⟨by rw [HR.out]; simp; intro e; exact hne (by rw [HN.out, HN'.out, e]), Below.refl _ _⟩

end Go.Proofs.YtkmkmgnfolpphaaDoor
namespace Go.Proofs.YtkmkmgnfolpphaaDoor
open Go.RowKit

def kL : List T3 := [(3, 0, 0), (3, 1, 1), (0, 0, 1), (1, 0, 1), (2, 0, 1), (0, 0, 3), (1, 1, 0), (0, 3, 6), (2, 1, 0), (1, 4, 8), (1, 8, 4), (0, 9, 10), (0, 1, 0), (0, 1, 6)]
def kS (n : Nat) : St := { ns := kL.take n, sp := [], gone := 0 }
def pz : Int → Int := fun _ => 0
theorem Ch.low {w0 w w' : World} {F F' : Nat → Prop} (h : Ch w w' F F') (hb : Below w0.heap.size w0 w) (hF : ∀ k, F k → w0.heap.size ≤ k) : Below w0.heap.size w0 w' ∧ ∀ k, F' k → w0.heap.size ≤ k := by
  have hs := hb.size
  refine ⟨hb.trans ⟨h.os, h.tape, h.output, h.size, fun k hk => h.block k (by omega) (fun q => by have := hF k q; omega)⟩, fun k hk => ?_⟩
  rcases h.foot k hk with q | q
  · exact hF k q
  · omega
/-- The examples' manager, with n nodes; made behind w0. -/
structure Kg (w0 w : World) (g n : Nat) (u : Value) (lu : List Int) : Prop where
  bel : Below w0.heap.size w0 w
  ex : ∃ F, Gr w F g 3 100 (kS n) pz ∧ (∀ k, F k → w0.heap.size ≤ k) ∧ Sf w F u lu
theorem Sf.below {w w' : World} {F : Nat → Prop} {v : Value} {l : List Int} (h : Sf w F v l) (hb : Below w.heap.size w w') : Sf w' F v l := by
  obtain ⟨a, c, e, h2⟩ := h.ex
  refine ⟨a, c, e, ?_⟩
  rcases h2 with h2 | ⟨r, o, h3, h4, h5, h6⟩
  · exact Or.inl h2
  · exact Or.inr ⟨r, o, h3, Nat.lt_of_lt_of_le h4 hb.size, h5, h6.kept (hb.block r h4)⟩
theorem Sf.sr {w : World} {F : Nat → Prop} {v : Value} {l : List Int} (h : Sf w F v l) : Sr w v l := by
  obtain ⟨a, c, e, h2⟩ := h.ex
  exact ⟨a, c, e, h2.imp id (fun ⟨r, o, h3, h4, _, h6⟩ => ⟨r, o, h3, h4, h6⟩)⟩
theorem Kg.beyond {w0 w w' : World} {g n : Nat} {u : Value} {lu : List Int} (h : Kg w0 w g n u lu) (hb : Below w.heap.size w w') : Kg w0 w' g n u lu := by
  obtain ⟨F, h1, h2, h3⟩ := h.ex
  exact ⟨h.bel.trans (hb.mono h.bel.size), F, h1.below hb, h2, h3.below hb⟩
theorem Kg.sr {w0 w : World} {g n : Nat} {u : Value} {lu : List Int} (h : Kg w0 w g n u lu) : Sr w u lu := by
  obtain ⟨F, -, -, h3⟩ := h.ex
  exact h3.sr
theorem pz_p1 : ∀ f, f ∈ ([] : List Int) ↔ 1 ≤ pz f := fun f => by simp [pz]
theorem pz_p2 {n : Nat} : ∀ p ∈ ([] : List Int), alive (kS n).ns p := fun _ hp => nomatch hp
section
variable {w0 w : World} {g n n' : Nat} {f r : Int} {u : Value} {lu : List Int}
theorem kn_var {i : Int} (h : Kg w0 w g n u lu) (hq : nodeR 100 (kS n) i 0 1 = some (r, kS n')) (hi : 0 ≤ i ∧ i < (3 : Nat)) :
    Calls Tryd.prog 22 #[.pointer (some ⟨g, 0, none⟩), .int .i64 i] w fun e w' => e = .returned (.tuple #[.int .i64 r, .int .i64 0]) ∧ Kg w0 w' g n' u lu := by
  obtain ⟨F, h1, h2, h3⟩ := h.ex
  obtain ⟨e1, e2⟩ := nodeR_eq hq ([] ++ valsR [] ++ [])
  have hV : varF 3 100 [] (kS n) i = (r, 0, kS n') := by unfold varF; rw [if_pos hi, e1]; rfl
  refine (var_any nodeC_no h1 i pz_p1 pz_p2 ?_).mono fun e' w' hr => ?_
  · rw [hV]; exact Or.inr ⟨rfl, e2⟩
  · rw [hV] at hr
    obtain ⟨r1, -, F', r3, r4⟩ := hr
    obtain ⟨q1, q2⟩ := r4.low h.bel h2
    exact ⟨r1, q1, F', r3, q2, h3.ch r4⟩
theorem kn_ans {q : T3} {O : List Int} {e : Ending} {w' : World} {F : Nat → Prop} (h : Kg w0 w g n u lu) (h2 : ∀ k, F k → w0.heap.size ≤ k) (h3 : Sf w F u lu) (hV : ansF 3 100 [] (kS n) q O = (r, 0, kS n')) (hr : OpR false w F g 3 100 (kS n) pz (ansF 3 100 [] (kS n) q O) e w') :
    e = .returned (.tuple #[.int .i64 r, .int .i64 0]) ∧ Kg w0 w' g n' u lu := by
  rw [hV] at hr
  obtain ⟨r1, -, F', r3, r4⟩ := hr
  obtain ⟨q1, q2⟩ := r4.low h.bel h2
  exact ⟨r1, q1, F', r3, q2, h3.ch r4⟩
theorem kn_f {q : T3} {O : List Int} (hO : ∀ i ∈ O, alive (kS n).ns i) (hq : ansQ 3 100 (kS n) q = some (r, kS n')) : ansF 3 100 [] (kS n) q O = (r, 0, kS n') := by
  unfold ansQ at hq
  obtain ⟨⟨f', S', R'⟩, e1, e2⟩ := Option.map_eq_some_iff.1 hq
  cases e2
  unfold ansF
  rw [if_pos hO, (solveR_eq _ _ _ _ _ _ _ e1 [] O).1]
  rfl
theorem kn_not (h : Kg w0 w g n u lu) (hf : alive (kS n).ns f) (hq : ansQ 3 100 (kS n) (f, 0, 1) = some (r, kS n')) :
    Calls Tryd.prog 24 #[.pointer (some ⟨g, 0, none⟩), .int .i64 f] w fun e w' => e = .returned (.tuple #[.int .i64 r, .int .i64 0]) ∧ Kg w0 w' g n' u lu := by
  obtain ⟨F, h1, h2, h3⟩ := h.ex
  have hV := kn_f (O := [f]) (by simpa using hf) hq
  exact (not_any ansC_no h1 f pz_p1 pz_p2 (by rw [hV]; exact Or.inr ⟨rfl, rfl⟩)).mono fun e' w' hr => kn_ans h h2 h3 hV hr
theorem kn_and {f2 : Int} (h : Kg w0 w g n u lu) (hf : alive (kS n).ns f ∧ alive (kS n).ns f2) (hq : ansQ 3 100 (kS n) (f, f2, 0) = some (r, kS n')) :
    Calls Tryd.prog 23 #[.pointer (some ⟨g, 0, none⟩), .int .i64 f, .int .i64 f2] w fun e w' => e = .returned (.tuple #[.int .i64 r, .int .i64 0]) ∧ Kg w0 w' g n' u lu := by
  obtain ⟨F, h1, h2, h3⟩ := h.ex
  have hV := kn_f (O := [f, f2]) (by simpa using hf) hq
  exact (and_any ansC_no h1 f f2 pz_p1 pz_p2 (by rw [hV]; exact Or.inr ⟨rfl, rfl⟩)).mono fun e' w' hr => kn_ans h h2 h3 hV hr
theorem kn_or {f2 : Int} (h : Kg w0 w g n u lu) (hf : alive (kS n).ns f ∧ alive (kS n).ns f2) (hq : ansQ 3 100 (kS n) (f, 1, f2) = some (r, kS n')) :
    Calls Tryd.prog 29 #[.pointer (some ⟨g, 0, none⟩), .int .i64 f, .int .i64 f2] w fun e w' => e = .returned (.tuple #[.int .i64 r, .int .i64 0]) ∧ Kg w0 w' g n' u lu := by
  obtain ⟨F, h1, h2, h3⟩ := h.ex
  have hV := kn_f (O := [f, f2]) (by simpa using hf) hq
  exact (or_any ansC_no h1 f f2 pz_p1 pz_p2 (by rw [hV]; exact Or.inr ⟨rfl, rfl⟩)).mono fun e' w' hr => kn_ans h h2 h3 hV hr
theorem kn_xor {f2 : Int} (h : Kg w0 w g n u lu) (hf : alive (kS n).ns f ∧ alive (kS n).ns f2) (hq : ansQ 3 100 (kS n) (f, -1, f2) = some (r, kS n')) :
    Calls Tryd.prog 28 #[.pointer (some ⟨g, 0, none⟩), .int .i64 f, .int .i64 f2] w fun e w' => e = .returned (.tuple #[.int .i64 r, .int .i64 0]) ∧ Kg w0 w' g n' u lu := by
  obtain ⟨F, h1, h2, h3⟩ := h.ex
  have hV := kn_f (O := [f, f2]) (by simpa using hf) hq
  exact (xor_any ansC_no h1 f f2 pz_p1 pz_p2 (by rw [hV]; exact Or.inr ⟨rfl, rfl⟩)).mono fun e' w' hr => kn_ans h h2 h3 hV hr
theorem kn_bad (h : Kg w0 w g n u lu) : Calls Tryd.prog 22 #[.pointer (some ⟨g, 0, none⟩), .int .i64 3] w fun e w' => e = .returned (.tuple #[.int .i64 0, .int .i64 142]) ∧ Kg w0 w' g n u lu := by
  obtain ⟨F, h1, h2, h3⟩ := h.ex
  have hV : varF 3 100 [] (kS n) 3 = (0, 142, kS n) := by unfold varF; rw [if_neg (by omega)]
  refine (var_any nodeC_no h1 3 pz_p1 pz_p2 ?_).mono fun e' w' hr => ?_
  · rw [hV]; exact Or.inr ⟨rfl, rfl⟩
  · rw [hV] at hr
    obtain ⟨r1, -, F', r3, r4⟩ := hr
    obtain ⟨q1, q2⟩ := r4.low h.bel h2
    exact ⟨r1, q1, F', r3, q2, h3.ch r4⟩
theorem kn_new (w : World) : Calls Tryd.prog 21 #[.int .i64 3, .int .i64 100] w fun e w' => ∃ g, e = .returned (.pointer (some ⟨g, 0, none⟩)) ∧ Kg w w' g 2 (.slice none 0 0) [] := by
  refine (new_any 3 100 w).mono ?_
  rintro e w' ⟨g, rfl, -, hb, hG⟩
  exact ⟨g, rfl, hb, _, hG, fun k hk => hk.1, none, 0, rfl, Or.inl rfl⟩
theorem kn_size (h : Kg w0 w g 12 u lu) : Calls Tryd.prog 10 #[.pointer (some ⟨g, 0, none⟩), .int .i64 11] w fun e w' => e = .returned (.tuple #[.int .i64 5, .int .i64 0]) ∧ Kg w0 w' g 12 u lu := by
  obtain ⟨F, h1, h2, h3⟩ := h.ex
  have hS := size_any h1 11
  rw [if_pos (by decide), show (odF 3 (kS 12).ns 11).length = 5 by decide] at hS
  exact hS.mono fun e w' hr => ⟨hr.1, h.beyond hr.2⟩
theorem kn_count (h : Kg w0 w g 12 u lu) : Calls Tryd.prog 11 #[.pointer (some ⟨g, 0, none⟩), .int .i64 5] w fun e w' => e = .returned (.tuple #[.string ⟨#[50]⟩, .int .i64 0]) ∧ Kg w0 w' g 12 u lu := by
  obtain ⟨F, h1, h2, h3⟩ := h.ex
  exact (count_two h1 (by decide) 5 (by decide) (by decide)).mono fun e w' hr => ⟨hr.1, h.beyond hr.2⟩
theorem kn_some (h : Kg w0 w g 12 u lu) : Calls Tryd.prog 12 #[.pointer (some ⟨g, 0, none⟩), .int .i64 5] w fun e w' => ∃ u, e = .returned (.tuple #[u, .bool true, .int .i64 0]) ∧ Kg w0 w' g 12 u [1, 2] := by
  obtain ⟨F, h1, h2, h3⟩ := h.ex
  have h1 := h1.cut
  have hS := some_any h1 5 (by decide)
  rw [show somF 3 (kS 12).ns 5 = ([1, 2], 1) by decide] at hS
  refine hS.mono ?_
  rintro e w' ⟨u, rfl, k1, k2⟩
  refine ⟨u, rfl, h.bel.trans (k2.mono h.bel.size), _, h1.below k2, fun k hk => h2 k hk.1, ?_⟩
  obtain ⟨a, k, hv⟩ := own_slice k1
  obtain ⟨r, cap, e, hb, -, hL⟩ := k1.li (by simp)
  rw [hv] at e
  injection e with e1 e2 e3
  exact ⟨a, k, hv, Or.inr ⟨r, 0, e1, (World.ownsRow.lt k1 r (by rw [hv, e1]; rfl)).2, fun q => by have := q.2; omega, hL⟩⟩
theorem kn_node (h : Kg w0 w g 14 u lu) : Calls Tryd.prog 30 #[.pointer (some ⟨g, 0, none⟩), .int .i64 5] w fun e w' => e = .returned (.tuple #[.int .i64 0, .int .i64 0, .int .i64 3, .bool true]) ∧ Kg w0 w' g 14 u lu := by
  obtain ⟨F, h1, h2, h3⟩ := h.ex
  have hS := nod_any h1 5
  rw [show nodF (kS 14).ns 5 = #[.int .i64 0, .int .i64 0, .int .i64 3, .bool true] by unfold nodF; rw [if_pos (by decide)]; rfl] at hS
  exact hS.mono fun e w' hr => ⟨hr.1, h.beyond hr.2⟩
end
theorem kq1 : nodeR 100 (kS 2) 0 0 1 = some (2, kS 3) := by rfl
theorem kq2 : nodeR 100 (kS 3) 1 0 1 = some (3, kS 4) := by rfl
theorem kq3 : nodeR 100 (kS 4) 2 0 1 = some (4, kS 5) := by rfl
theorem kq4 : ansQ 3 100 (kS 5) (2, 3, 0) = some (5, kS 6) := by rfl
theorem kq5 : ansQ 3 100 (kS 6) (2, -1, 3) = some (7, kS 8) := by rfl
theorem kq6 : ansQ 3 100 (kS 8) (7, -1, 4) = some (11, kS 12) := by rfl
theorem kq7 : ansQ 3 100 (kS 12) (2, 0, 1) = some (12, kS 13) := by rfl
theorem kq8 : ansQ 3 100 (kS 13) (3, 0, 1) = some (6, kS 13) := by rfl
theorem kq9 : ansQ 3 100 (kS 13) (12, 1, 6) = some (13, kS 14) := by rfl
theorem kq10 : ansQ 3 100 (kS 14) (5, 0, 1) = some (13, kS 14) := by rfl
end Go.Proofs.YtkmkmgnfolpphaaDoor
namespace Go.Proofs.YtkmkmgnfolpphaaDoor
open Go.RowKit

set_option maxRecDepth 20000 in
set_option maxHeartbeats 6400000 in
theorem known_any (w : World) : Calls Tryd.prog 5 #[] w fun e w' => e = .returned (.bool true) ∧ Below w.heap.size w w' := by
  have H1 : Hid (∀ wx g u lu, Kg w wx g 2 u lu → _) := fun wx g u lu h => kn_var h kq1 (by decide)
  have H2 : Hid (∀ wx g u lu, Kg w wx g 3 u lu → _) := fun wx g u lu h => kn_var h kq2 (by decide)
  have H3 : Hid (∀ wx g u lu, Kg w wx g 4 u lu → _) := fun wx g u lu h => kn_var h kq3 (by decide)
  have H4 : Hid (∀ wx g u lu, Kg w wx g 5 u lu → _) := fun wx g u lu h => kn_and h (by decide) kq4
  have H5 : Hid (∀ wx g u lu, Kg w wx g 6 u lu → _) := fun wx g u lu h => kn_xor h (by decide) kq5
  have H6 : Hid (∀ wx g u lu, Kg w wx g 8 u lu → _) := fun wx g u lu h => kn_xor h (by decide) kq6
  have H7 : Hid (∀ wx g u lu, Kg w wx g 12 u lu → _) := fun wx g u lu h => kn_not h (by decide) kq7
  have H8 : Hid (∀ wx g u lu, Kg w wx g 13 u lu → _) := fun wx g u lu h => kn_not h (by decide) kq8
  have H9 : Hid (∀ wx g u lu, Kg w wx g 13 u lu → _) := fun wx g u lu h => kn_or h (by decide) kq9
  have H10 : Hid (∀ wx g u lu, Kg w wx g 14 u lu → _) := fun wx g u lu h => kn_not h (by decide) kq10
  have HN : Hid _ := kn_new w
  go_enter Tryd.func5, Tryd.ntmps5
  go_wp2_with fail
  refine Calls.mono HN.out ?_
  rintro e w1 ⟨g, rfl, h1⟩
  have K1 : Hid _ := h1
  clear h1 HN
  go_wp2_with fail
  refine Calls.mono (H1.out _ _ _ _ K1.out) ?_
  rintro e w2 ⟨rfl, h2⟩
  have K2 : Hid _ := h2
  clear h2 H1
  go_wp2_with fail
  refine Calls.mono (H2.out _ _ _ _ K2.out) ?_
  rintro e w3 ⟨rfl, h3⟩
  have K3 : Hid _ := h3
  clear h3 H2
  go_wp2_with fail
  refine Calls.mono (H3.out _ _ _ _ K3.out) ?_
  rintro e w4 ⟨rfl, h4⟩
  have K4 : Hid _ := h4
  clear h4 H3
  go_wp2_with fail
  refine Calls.mono (H4.out _ _ _ _ K4.out) ?_
  rintro e w5 ⟨rfl, h5⟩
  have K5 : Hid _ := h5
  clear h5 H4
  go_wp2_with fail
  refine Calls.mono (H5.out _ _ _ _ K5.out) ?_
  rintro e w6 ⟨rfl, h6⟩
  have K6 : Hid _ := h6
  clear h6 H5
  go_wp2_with fail
  refine Calls.mono (H6.out _ _ _ _ K6.out) ?_
  rintro e w7 ⟨rfl, h7⟩
  have K7 : Hid _ := h7
  clear h7 H6
  go_wp2_with fail
  refine Calls.mono (kn_size K7.out) ?_
  rintro e w8 ⟨rfl, h8⟩
  have K8 : Hid _ := h8
  clear h8
  go_wp2_with fail
  refine Calls.mono (kn_count K8.out) ?_
  rintro e w9 ⟨rfl, h9⟩
  have K9 : Hid _ := h9
  clear h9
  go_wp2_with fail
  refine Calls.mono (kn_some K9.out) ?_
  rintro e w10 ⟨u, rfl, h10⟩
  obtain ⟨a, c, rfl⟩ := h10.sr.out
  have K10 : Hid _ := h10
  clear h10
  go_wp2_with fail
  refine Calls.mono (H7.out _ _ _ _ K10.out) ?_
  rintro e w11 ⟨rfl, h11⟩
  have K11 : Hid _ := h11
  clear h11 H7
  go_wp2_with fail
  refine Calls.mono (H8.out _ _ _ _ K11.out) ?_
  rintro e w12 ⟨rfl, h12⟩
  have K12 : Hid _ := h12
  clear h12 H8
  go_wp2_with fail
  refine Calls.mono (H9.out _ _ _ _ K12.out) ?_
  rintro e w13 ⟨rfl, h13⟩
  have K13 : Hid _ := h13
  clear h13 H9
  go_wp2_with fail
  refine Calls.mono (H10.out _ _ _ _ K13.out) ?_
  rintro e w14 ⟨rfl, h14⟩
  have K14 : Hid _ := h14
  clear h14 H10
  go_wp2_with fail
  refine Calls.mono (kn_bad K14.out) ?_
  rintro e w15 ⟨rfl, h15⟩
  have K15 : Hid _ := h15
  clear h15
  go_wp2_with fail
  refine Calls.mono (kn_node K15.out) ?_
  rintro e w16 ⟨rfl, h16⟩
  have K16 : Hid _ := h16
  clear h16
  have HI : Hid _ := ints_sr (K16.out.sr.below ((Below.refl _ _).alloc (Nat.le_refl _) (.cells #[.int .i64 1, .int .i64 2] 3))) (v := .slice (some ⟨w16.heap.size, 0, none⟩) 2 2) (m := [1, 2]) ⟨_, _, rfl, Or.inr ⟨_, _, rfl, by simp, fun j hj => by
    have h2 : j < 2 := hj
    have hn := heap_alloc_new w16 (.cells #[.int .i64 1, .int .i64 2] 3)
    rcases (show j = 0 ∨ j = 1 by omega) with rfl | rfl
    · exact cell_of hn 0 rfl
    · exact cell_of hn 1 rfl⟩⟩ (by simp) (by simp)
  go_wp2_with fail
  refine Calls.mono HI.out ?_
  rintro e w17 ⟨rfl, h17⟩
  go_wp2_with fail
  go_ret
  exact ⟨rfl, K16.out.bel.trans (((Below.refl _ _).alloc (Nat.le_refl _) _).trans (h17.mono (by simp)) |>.mono K16.out.bel.size)⟩
end Go.Proofs.YtkmkmgnfolpphaaDoor
