/- Contracts (sexp): a thing is laid into the innermost list. -/
import Derived.Test.YtikdjloedeinhaaDoorSX7
namespace Go.Proofs.YtikdjloedeinhaaDoor
open Go.RowKit
set_option linter.unusedSimpArgs false
set_option linter.unusedVariables false

theorem info_any {t : TypeId} {z : Value} {s b : Nat} (h : (Tryd.prog.info? t).map (fun i => (i.zero, i.size, i.bytes)) = some (some z, s, b)) : ∃ i, Tryd.prog.info? t = some i ∧ i.zero = some z ∧ i.size = s ∧ i.bytes = b := by
  obtain ⟨i, hi, e⟩ := Option.map_eq_some_iff.1 h
  simp at e
  exact ⟨i, hi, e.1, e.2.1, e.2.2⟩
theorem infoS : (Tryd.prog.info? 35).map (fun i => (i.zero, i.size, i.bytes)) = some (some (.agg #[.string ⟨#[]⟩, .bool false, .slice none 0 0]), 3, 48) := by kernel_rfl
theorem infoO : (Tryd.prog.info? 76).map (fun i => (i.zero, i.size, i.bytes)) = some (some (.agg #[.int .i64 0, .slice none 0 0]), 2, 32) := by kernel_rfl
theorem underS : Tryd.prog.underlying 23 = some (.slice 35) := by kernel_rfl
theorem underO : Tryd.prog.underlying 52 = some (.slice 76) := by kernel_rfl
/-- The parser at block p: its text, its place, the lists that are open. -/
structure Pz (w : World) (D : Nat → Prop) (B p : Nat) (t : ByteArray) (k : Nat) (so : Value) (fs : List Fm) : Prop where
  cu : Cu w p t k [so] 54
  os : Os w D B so 76 2 Fm.cs fs
  out : some p ∉ so.ownBlock :: fs.map (fun f => f.v.ownBlock)
  nd : ¬ D p
  bp : B ≤ p
theorem Pz.below {w w' : World} {D : Nat → Prop} {B p : Nat} {t : ByteArray} {k : Nat} {so : Value} {fs : List Fm} (h : Pz w D B p t k so fs) (hb : Below w.heap.size w w') : Pz w' D B p t k so fs :=
  ⟨h.cu.far hb h.cu.lt, h.os.below hb, h.out, h.nd, h.bp⟩
theorem Pz.c2 {w : World} {D : Nat → Prop} {B p : Nat} {t : ByteArray} {k : Nat} {so : Value} {fs : List Fm} (h : Pz w D B p t k so fs) : w.cell? ⟨p, 2, none⟩ = some so := cell_of h.cu.hd 2 (by simp)
theorem Pz.f2 {w : World} {D : Nat → Prop} {B p : Nat} {t : ByteArray} {k : Nat} {so : Value} {fs : List Fm} (h : Pz w D B p t k so fs) (o : Nat) : w.frozen? ⟨p, o, none⟩ = false := by simp [World.frozen?, h.cu.hd]
/-- Only the cursor's place has turned. -/
theorem Pz.on {w w' : World} {D : Nat → Prop} {B p : Nat} {t : ByteArray} {k j : Nat} {so : Value} {fs : List Fm} (h : Pz w D B p t k so fs) (hc : Cu w' p t j [so] 54) (ho : w.grownBy w' (some p)) : Pz w' D B p t j so fs :=
  ⟨hc, h.os.keep ho.size (fun b hb => ho.block b (h.os.lt b hb).2 (fun e => by
    injection e with e
    subst e
    rcases hb with hb | hb
    · exact h.out hb
    · exact h.nd hb)), h.out, h.nd, h.bp⟩
theorem take_set3 {L A : List Value} {m : Nat} {x y z a b c : Value} (h : L.take (m + 3) = A ++ [x, y, z]) (hm : A.length = m) : (((L.set m a).set (m + 1) b).set (m + 2) c).take (m + 3) = A ++ [a, b, c] := by
  rw [List.take_set, List.take_set, List.take_set, h, List.set_append_right _ _ (by omega), List.set_append_right _ _ (by omega), List.set_append_right _ _ (by omega), hm, show m - m = 0 by omega, show m + 1 - m = 1 by omega, show m + 2 - m = 2 by omega]
  rfl
theorem take_set1 {L A : List Value} {m : Nat} {x y a : Value} (h : L.take (m + 2) = A ++ [x, y]) (hm : A.length = m) : (L.set (m + 1) a).take (m + 2) = A ++ [x, a] := by
  rw [List.take_set, h, List.set_append_right _ _ (by omega), hm, show m + 1 - m = 1 by omega]
  rfl
/-- Three cells of one block have turned. -/
theorem set3 {y : World} {q o : Nat} {cur : Array Value} {T : TypeId} {a b c : Value} (h : y.heap[q]? = some (.cells cur T (0, 0))) :
    (((y.setCell ⟨q, o, none⟩ a).setCell ⟨q, o + 1, none⟩ b).setCell ⟨q, o + 2, none⟩ c).heap[q]? = some (.cells (((cur.setIfInBounds o a).setIfInBounds (o + 1) b).setIfInBounds (o + 2) c) T (0, 0)) ∧ On y (((y.setCell ⟨q, o, none⟩ a).setCell ⟨q, o + 1, none⟩ b).setCell ⟨q, o + 2, none⟩ c) q := by
  have h1 := heap_setCell_same y q o _ _ a h
  have h2 := heap_setCell_same _ q (o + 1) _ _ b h1
  have h3 := heap_setCell_same _ q (o + 2) _ _ c h2
  exact ⟨h3, ((On.put _ _ _ _).trans (On.put _ _ _ _)).trans (On.put _ _ _ _)⟩
/-- What laying an entry leaves: its row q, the open lists' row R; all else as it was in x, but for f's own row. -/
structure Laid (x z : World) (q R nE : Nat) (fv : Value) (cur : Array Value) (old : List Value) (S : TypeId) (capq : Nat) : Prop where
  os : z.os = x.os
  tape : z.tape = x.tape
  output : z.output = x.output
  size : x.heap.size ≤ z.heap.size
  qq : z.heap[q]? = some (.cells cur S (0, 0))
  full : cur.size = capq * 3 ∧ cur.toList.take ((nE + 1) * 3) = old
  new : fv.ownBlock = some q ∨ x.heap.size ≤ q
  block : ∀ b, b < x.heap.size → b ≠ R → some b ≠ fv.ownBlock → z.heap[b]? = x.heap[b]?
theorem ownBlock_ne {w : World} {D : Nat → Prop} {B R n cap : Nat} {O : TypeId} {sz : Nat} {cs : Fm → List Value} {gs : List Fm} {f : Fm} (h : Os w D B (.slice (some ⟨R, 0, none⟩) n cap) O sz cs (gs ++ [f])) : f.v.ownBlock ≠ some R ∧ (∀ g ∈ gs, ∀ b, g.v.ownBlock = some b → f.v.ownBlock ≠ some b ∧ b ≠ R) := by
  have ha := h.apart
  rw [List.pairwise_cons] at ha
  refine ⟨?_, ?_⟩
  · intro e
    rcases ha.1 f.v.ownBlock (List.mem_map.2 ⟨f, by simp, rfl⟩) with h1 | h1
    · cases h1
    · exact h1 e.symm
  · intro g hg b hb
    have h2 := ha.2
    rw [List.map_append, List.pairwise_append] at h2
    refine ⟨fun e => ?_, fun e => ?_⟩
    · rcases h2.2.2 g.v.ownBlock (List.mem_map.2 ⟨g, hg, rfl⟩) f.v.ownBlock (by simp) with h3 | h3
      · rw [hb] at h3; cases h3
      · rw [hb, e] at h3; exact h3 rfl
    · rcases ha.1 g.v.ownBlock (List.mem_map.2 ⟨g, by simp [hg], rfl⟩) with h3 | h3
      · cases h3
      · rw [hb, e] at h3; exact h3 rfl
/-- The open lists behind an entry that was laid into the innermost. -/
theorem Os.laid {x z : World} {D : Nat → Prop} {B R n cap q capq : Nat} {O : TypeId} {sz : Nat} {cs : Fm → List Value} {gs : List Fm} {f : Fm} {e : En} {cur : Array Value}
    (h : Os x D B (.slice (some ⟨R, 0, none⟩) n cap) O sz cs (gs ++ [f])) (hl : Laid x z q R f.es.length f.v cur (f.es.flatMap ecs ++ ecs e) 35 capq) (hr : Row x D e.1.ks e.2) (hBx : B ≤ x.heap.size)
    (hrow : z.ownsRow B O sz (.slice (some ⟨R, 0, none⟩) n cap) (gs ++ [(⟨f.pl, .slice (some ⟨q, 0, none⟩) (f.es.length + 1) capq, f.es ++ [e]⟩ : Fm)]).length ((gs ++ [(⟨f.pl, .slice (some ⟨q, 0, none⟩) (f.es.length + 1) capq, f.es ++ [e]⟩ : Fm)]).flatMap cs))
    (hc1 : f.es.length + 1 ≤ capq) (hc2 : capq ≤ maxLen) :
    Os z D B (.slice (some ⟨R, 0, none⟩) n cap) O sz cs (gs ++ [⟨f.pl, .slice (some ⟨q, 0, none⟩) (f.es.length + 1) capq, f.es ++ [e]⟩]) := by
  obtain ⟨hfR, hg⟩ := ownBlock_ne h
  have hfl : f ∈ gs ++ [f] := by simp
  have hD : ∀ b, D b → z.heap[b]? = x.heap[b]? := fun b hb => hl.block b (h.done b hb).2 (fun e => h.live b (by rw [e]; simp [Value.ownBlock]) hb) (fun e => h.live b (by rw [e]; exact List.mem_cons_of_mem _ (List.mem_map.2 ⟨f, hfl, rfl⟩)) hb)
  have hqn : q ≠ R := by
    rcases hl.new with e | e
    · intro e2; rw [e2] at e; exact hfR e
    · have := (h.row.lt R rfl).2; omega
  have hqD : ¬ D q := by
    intro hd
    rcases hl.new with e | e
    · exact h.live q (by rw [← e]; exact List.mem_cons_of_mem _ (List.mem_map.2 ⟨f, hfl, rfl⟩)) hd
    · have := (h.done q hd).2; omega
  have hBq : B ≤ q := by
    rcases hl.new with e | e
    · exact ((h.own f hfl).lt q e).1
    · omega
  have hgq : ∀ g ∈ gs, ∀ b, g.v.ownBlock = some b → b ≠ q := by
    intro g hgg b hb e2
    rcases hl.new with e | e
    · exact ((hg g hgg b hb).1) (by rw [e, e2])
    · have := ((h.own g (by simp [hgg])).lt b hb).2; omega
  have hgk : ∀ g ∈ gs, ∀ b, g.v.ownBlock = some b → z.heap[b]? = x.heap[b]? := by
    intro g hgg b hb
    exact hl.block b ((h.own g (by simp [hgg])).lt b hb).2 (hg g hgg b hb).2 (fun e => (hg g hgg b hb).1 e.symm)
  refine ⟨hrow, ?_, ?_, ?_, ?_, fun b hb => ⟨(h.done b hb).1, Nat.lt_of_lt_of_le (h.done b hb).2 hl.size⟩⟩
  · intro g hgg
    rcases List.mem_append.1 hgg with hgg | hgg
    · exact row_own (h.own g (by simp [hgg])) (hgk g hgg)
    · rw [List.mem_singleton.1 hgg]
      refine ⟨by rw [ecs_len], Or.inr ⟨q, capq, cur, by simp, hBq, hl.qq, by simpa using hc1, hc2, hl.full.1, ?_⟩⟩
      rw [List.length_append, List.length_singleton, hl.full.2, List.flatMap_append]; simp
  · intro g hgg e' he'
    rcases List.mem_append.1 hgg with hgg | hgg
    · exact (h.kid g (by simp [hgg]) e' he').keep hD (fun _ h => h)
    · rw [List.mem_singleton.1 hgg] at he'
      rcases List.mem_append.1 he' with he' | he'
      · exact (h.kid f hfl e' he').keep hD (fun _ h => h)
      · rw [List.mem_singleton.1 he']; exact hr.keep hD (fun _ h => h)
  · have ha := h.apart
    rw [List.pairwise_cons, List.map_append, List.pairwise_append] at ha ⊢
    refine ⟨?_, ha.2.1, List.pairwise_singleton _ _, ?_⟩
    · intro a hh
      rcases List.mem_append.1 hh with hh | hh
      · exact ha.1 a (List.mem_append_left _ hh)
      · simp [Value.ownBlock] at hh
        rw [hh]; exact Or.inr (fun e => hqn (by simpa [Value.ownBlock] using e.symm))
    · intro a hh b hb
      simp [Value.ownBlock] at hb
      obtain ⟨g, hgg, rfl⟩ := List.mem_map.1 hh
      rw [hb]
      cases e : g.v.ownBlock with
      | none => exact Or.inl rfl
      | some c => exact Or.inr (fun e2 => hgq g hgg c e (by injection e2))
  · intro b hb
    rcases List.mem_cons.1 hb with e | hb
    · exact h.live b (by rw [e]; simp)
    · rw [List.map_append] at hb
      rcases List.mem_append.1 hb with hb | hb
      · exact h.live b (List.mem_cons_of_mem _ (by rw [List.map_append]; exact List.mem_append_left _ hb))
      · simp [Value.ownBlock] at hb
        rw [hb]; exact hqD
end Go.Proofs.YtikdjloedeinhaaDoor
