/- The document's open lists: what is held while it reads. -/
import Derived.Test.YtikdjloedeinhaaDoorSX20
import Derived.Test.YtikdjloedeinhaaDoorSX21
namespace Go.Proofs.YtikdjloedeinhaaDoor
open Go.RowKit
set_option linter.unusedSimpArgs false
set_option linter.unusedVariables false

/-- Behind such a region: the new row, and that all else stays. -/
theorem BSt.fin {x0 : World} {B : Nat} {S : TypeId} {fv : Value} {m : Nat} {old zs fs : List Value} {R o : Nat} {cr : Array Value} {TR : TypeId} {il ib ia ie is : Nat} {g : Nat → Nat} {L : Nat → Bool} {x : World} (hs : BSt x0 B S 3 fv m old zs fs R o cr TR il ib ia ie is g L x) (hLa : L ia = true) (hLs : L is = true) {E : List Value} (hE : (if L ie = true then fs else zs) = E) :
    ∃ q capq cur, Laid x0 x q R m fv cur (old ++ E) S capq ∧ x.heap[R]? = some (.cells (cr.setIfInBounds o (.slice (some ⟨q, 0, none⟩) (m + 1) capq)) TR (0, 0)) ∧ sl (m + 1) (g ia) = .slice (some ⟨q, 0, none⟩) (m + 1) capq ∧ m + 1 ≤ capq ∧ capq ≤ maxLen := by
  obtain ⟨hra, hat⟩ := hs.ra hLa
  have hrs := hs.rs hLs
  rcases hra.2 with ⟨e0, -⟩ | ⟨q, capq, cur, hv', hb, hqq, hc, hmx, hsz, htk⟩
  · unfold sl at e0; cases e0
  · rw [hv'] at hat hrs
    rw [hE] at htk
    refine ⟨q, capq, cur, ⟨hs.os, hs.tape, hs.output, hs.siz, hqq, ⟨hsz, htk⟩, ?_, fun b hb h1 h2 => hs.kp b hb (fun _ => h2) (fun _ => h1)⟩, hrs, hv', hc, hmx⟩
    rcases hat with e1 | ⟨b', e1, hb'⟩
    · exact Or.inl e1.symm
    · right
      have e2 : some q = some b' := e1
      injection e2 with e2
      omega
def csD (f : Fm) : List Value := [f.v]
theorem csD_len (fs : List Fm) : (fs.flatMap csD).length = fs.length * 1 := by
  induction fs with
  | nil => rfl
  | cons e l ih => rw [List.flatMap_cons, List.length_append, ih, List.length_cons]; show 1 + _ = _; omega
theorem take_set0 {L A : List Value} {m : Nat} {y a : Value} (h : L.take (m + 1) = A ++ [y]) (hm : A.length = m) : (L.set m a).take (m + 1) = A ++ [a] := by
  rw [List.take_set, h, List.set_append_right _ _ (by omega), hm, show m - m = 0 by omega]
  rfl
theorem last_set1 {z : World} {B R cap : Nat} {O : TypeId} {cr : Array Value} {gs : List Fm} {f : Fm} {v' : Value} (hR : z.heap[R]? = some (.cells (cr.setIfInBounds gs.length v') O (0, 0))) (hB : B ≤ R) (hc : gs.length + 1 ≤ cap) (hm : cap ≤ maxLen) (hs : cr.size = cap * 1) (ht : cr.toList.take ((gs.length + 1) * 1) = (gs ++ [f]).flatMap csD) {es : List En} :
    z.ownsRow B O 1 (.slice (some ⟨R, 0, none⟩) (gs.length + 1) cap) (gs ++ [(⟨f.pl, v', es⟩ : Fm)]).length ((gs ++ [(⟨f.pl, v', es⟩ : Fm)]).flatMap csD) := by
  have hl : (gs ++ [(⟨f.pl, v', es⟩ : Fm)]).length = gs.length + 1 := by simp
  rw [hl]
  refine ⟨by rw [csD_len]; simp, Or.inr ⟨R, cap, _, rfl, hB, hR, hc, hm, by simp [hs], ?_⟩⟩
  have ht' : cr.toList.take (gs.length + 1) = gs.flatMap csD ++ [f.v] := by
    rw [← Nat.mul_one (gs.length + 1), ht, List.flatMap_append]; simp [csD]
  have h1 := take_set0 (a := v') ht' (by rw [csD_len]; omega)
  rw [Nat.mul_one, List.flatMap_append]
  simpa [csD] using h1
/-- The document's lists that are open: their slice so, their places' slice fo. -/
structure Dz (w : World) (D : Nat → Prop) (B : Nat) (so fo : Value) (fs : List Fm) : Prop where
  os : Os w D B so 23 1 csD fs
  fr : w.ownsRow B 3 1 fo (fs.length - 1) (fs.tail.map fun f => Value.int .i64 (f.pl : Int))
  out : ∀ b, fo.ownBlock = some b → some b ∉ so.ownBlock :: fs.map (fun f => f.v.ownBlock) ∧ ¬ D b
theorem Dz.below {w w' : World} {D : Nat → Prop} {B : Nat} {so fo : Value} {fs : List Fm} (h : Dz w D B so fo fs) (hb : Below w.heap.size w w') : Dz w' D B so fo fs :=
  ⟨h.os.below hb, row_own h.fr (fun k hk => hb.block k (h.fr.lt k hk).2), h.out⟩
/-- The innermost list's cell, and the row. -/
theorem Dz.last {w : World} {D : Nat → Prop} {B : Nat} {so fo : Value} {gs : List Fm} {f : Fm} (h : Dz w D B so fo (gs ++ [f])) : ∃ R cap cr, so = .slice (some ⟨R, 0, none⟩) (gs.length + 1) cap ∧ B ≤ R ∧ R < w.heap.size ∧ gs.length + 1 ≤ cap ∧ cap ≤ maxLen ∧ w.heap[R]? = some (.cells cr 23 (0, 0)) ∧ cr.size = cap * 1 ∧ cr.toList.take ((gs.length + 1) * 1) = (gs ++ [f]).flatMap csD ∧ w.cell? ⟨R, gs.length, none⟩ = some f.v := by
  have hl : (gs ++ [f]).length = gs.length + 1 := by simp
  rcases h.os.row.2 with ⟨-, h0⟩ | ⟨R, cap, cr, hv, hb, hg, hc, hm, hs, ht⟩
  · omega
  · rw [hl] at hv hc ht
    refine ⟨R, cap, cr, hv, hb, (Array.getElem?_eq_some_iff.1 hg).1, hc, hm, hg, hs, ht, ?_⟩
    have h1 : ((gs ++ [f]).flatMap csD)[gs.length]? = some f.v := by
      rw [List.flatMap_append, List.getElem?_append_right (by rw [csD_len]; omega), csD_len, show gs.length - gs.length * 1 = 0 by omega]
      rfl
    rw [← ht, List.getElem?_take_of_lt (by omega)] at h1
    exact cell_of hg _ (by simpa using h1)
theorem fslice {w : World} {B : Nat} {D : Nat → Prop} {so : Value} {O : TypeId} {sz : Nat} {cs : Fm → List Value} {fs : List Fm} (h : Os w D B so O sz cs fs) {f : Fm} (hf : f ∈ fs) : ∃ a c, f.v = .slice a f.es.length c := by
  rcases (h.own f hf).2 with ⟨e1, e2⟩ | ⟨g, c, _, e1, -⟩
  · exact ⟨none, 0, by rw [e1, e2]⟩
  · exact ⟨_, _, e1⟩
/-- An entry is laid into the innermost list. -/
theorem Dz.laid {x z : World} {D : Nat → Prop} {B R cap q capq : Nat} {fo : Value} {gs : List Fm} {f : Fm} {e : En} {cur cr : Array Value}
    (h : Dz x D B (.slice (some ⟨R, 0, none⟩) (gs.length + 1) cap) fo (gs ++ [f])) (hl : Laid x z q R f.es.length f.v cur (f.es.flatMap ecs ++ ecs e) 35 capq) (hr : Row x D e.1.ks e.2) (hBx : B ≤ x.heap.size)
    (hR : z.heap[R]? = some (.cells (cr.setIfInBounds gs.length (.slice (some ⟨q, 0, none⟩) (f.es.length + 1) capq)) 23 (0, 0))) (hB : B ≤ R) (hc : gs.length + 1 ≤ cap) (hm : cap ≤ maxLen) (hs : cr.size = cap * 1) (ht : cr.toList.take ((gs.length + 1) * 1) = (gs ++ [f]).flatMap csD)
    (hc1 : f.es.length + 1 ≤ capq) (hc2 : capq ≤ maxLen) :
    Dz z D B (.slice (some ⟨R, 0, none⟩) (gs.length + 1) cap) fo (gs ++ [⟨f.pl, .slice (some ⟨q, 0, none⟩) (f.es.length + 1) capq, f.es ++ [e]⟩]) := by
  have hfl : f ∈ gs ++ [f] := by simp
  refine ⟨h.os.laid hl hr hBx (last_set1 hR hB hc hm hs ht) hc1 hc2, ?_, ?_⟩
  · have h1 := h.fr
    have e1 : (gs ++ [(⟨f.pl, .slice (some ⟨q, 0, none⟩) (f.es.length + 1) capq, f.es ++ [e]⟩ : Fm)]).tail.map (fun f => Value.int .i64 (f.pl : Int)) = (gs ++ [f]).tail.map (fun f => Value.int .i64 (f.pl : Int)) := by
      cases gs <;> simp
    rw [e1, show (gs ++ [(⟨f.pl, .slice (some ⟨q, 0, none⟩) (f.es.length + 1) capq, f.es ++ [e]⟩ : Fm)]).length = (gs ++ [f]).length by simp]
    refine row_own h1 (fun k hk => hl.block k (h1.lt k hk).2 ?_ ?_)
    · intro e2; exact (h.out k hk).1 (by rw [e2]; simp [Value.ownBlock])
    · intro e2; exact (h.out k hk).1 (List.mem_cons_of_mem _ (List.mem_map.2 ⟨f, hfl, e2.symm⟩))
  · intro b hb
    obtain ⟨o1, o2⟩ := h.out b hb
    refine ⟨?_, o2⟩
    intro hmem
    simp only [List.mem_cons, List.map_append, List.mem_append, List.map_cons, List.map_nil, List.not_mem_nil, or_false, not_or] at hmem o1
    rcases hmem with e1 | e1 | e1
    · exact o1.1 e1
    · exact o1.2.1 e1
    · have e2 : b = q := by have e3 : some b = some q := e1; injection e3
      rcases hl.new with e3 | e3
      · exact o1.2.2 (by rw [e2, e3])
      · have := (h.fr.lt b hb).2; omega
end Go.Proofs.YtikdjloedeinhaaDoor
