import Derived.Test.YtcahhahbcijkiaaGreatMg44
import Derived.Test.YtcahhahbcijkiaaGreatMg43
import Derived.Test.YtcahhahbcijkiaaGreatMg13
namespace Go.Proofs.YtcahhahbcijkiaaGreat.Ag
set_option maxHeartbeats 12800000
set_option maxRecDepth 100000
open Go.RowKit
set_option linter.unusedSimpArgs false
set_option linter.unusedVariables false
theorem knows_any {w : World} {D : Nat → Prop} {bl mk : Nat} {f : Int → Option (List Int)} {id : Int} (h : Kw w D mk f) (hc : w.cell? ⟨bl, 2, none⟩ = some (.map (some mk))) (hid : w64 id) :
  Calls Tryz.prog 47 #[.pointer (some ⟨bl, 0, none⟩), .int .i64 id] w fun ev w' => ev = .returned (.bool (f id).isSome) ∧ w' = w := by
 obtain ⟨u, hl, -⟩ := h.look2 hid
 obtain ⟨b, hb⟩ : ∃ b, b = (f id).isSome := ⟨_, rfl⟩
 rw [← hb] at hl ⊢
 clear h hid hb
 go_enter Tryz.func47, Tryz.ntmps47
 go_wp2_with fail
 go_ret
 exact ⟨rfl, rfl⟩
end Go.Proofs.YtcahhahbcijkiaaGreat.Ag
namespace Go.Proofs.YtcahhahbcijkiaaGreat
set_option maxHeartbeats 12800000
set_option maxRecDepth 100000
set_option linter.unusedSimpArgs false
set_option linter.unusedVariables false
open Go.RowKit
structure Zb where
 f : Int → Option (List Int)
 ids : List Int
 ks : List Ag.Kd
def Zb.gf (z : Zb) (i : Int) : List Int := (z.f i).getD []
def nullN : Nd := ⟨0, 0, 0, 0, 0, 0, 0, 0, 0, 0, ByteArray.empty⟩
def nAt (ns : List Nd) (i : Int) : Nd := (ns[(i - 1).toNat]?).getD nullN
def cLit (n : Nd) : List Int := if n.w = 0 then [Ag.b01 (decide (n.lo = 1))] else Ag.cnL (fun i => (n.lo + 18446744073709551616 * n.hi).toNat.testBit i) n.w.toNat
def liS (ns : List Nd) (mo : Nat) (z : Zb) (id : Int) : Zb × Int :=
 if (nAt ns id).op ≠ 2 ∨ (z.f id).isSome = true then (z, 0)
 else if (Ag.ipK mo z.ks (wl (nAt ns id).s)).2.1 ≠ 0 then (⟨z.f, z.ids, (Ag.ipK mo z.ks (wl (nAt ns id).s)).2.2⟩, (Ag.ipK mo z.ks (wl (nAt ns id).s)).2.1)
 else (⟨Ag.upK z.f id (Ag.ipK mo z.ks (wl (nAt ns id).s)).1, z.ids ++ [id], (Ag.ipK mo z.ks (wl (nAt ns id).s)).2.2⟩, 0)
def liK (ns : List Nd) (mo : Nat) (z : Zb) : List Int → Zb × Int
 | [] => (z, 0)
 | id :: l => if (liS ns mo z id).2 ≠ 0 then liS ns mo z id else liK ns mo (liS ns mo z id).1 l
def cirZ (ns : List Nd) (mo : Nat) (z : Zb) (id : Int) : List Int × Ag.Gz := Ag.cirF mo ⟨z.ks, 0⟩ (cLit (nAt ns id)) (z.gf (nAt ns id).a) (z.gf (nAt ns id).b) (z.gf (nAt ns id).c) (nAt ns id).p.toNat (nAt ns id).q.toNat (nAt ns id).op.toNat
def lcS (ns : List Nd) (mo : Nat) (z : Zb) (id : Int) : Zb × Int :=
 if (z.f id).isSome = true then (z, 0)
 else if (cirZ ns mo z id).2.r ≠ 0 then (⟨z.f, z.ids, (cirZ ns mo z id).2.ks⟩, (cirZ ns mo z id).2.r)
 else (⟨Ag.upK z.f id (cirZ ns mo z id).1, z.ids, (cirZ ns mo z id).2.ks⟩, 0)
def lcK (ns : List Nd) (mo : Nat) (z : Zb) : List Int → Zb × Int
 | [] => (z, 0)
 | id :: l => if (lcS ns mo z id).2 ≠ 0 then lcS ns mo z id else lcK ns mo (lcS ns mo z id).1 l
def teF (ns : List Nd) (mo : Nat) (z : Zb) (id : Int) : Zb × Int :=
 if coneL ns id = [] then (z, 90)
 else if (liK ns mo z (coneL ns id)).2 ≠ 0 then liK ns mo z (coneL ns id)
 else lcK ns mo (liK ns mo z (coneL ns id)).1 (coneL ns id)
end Go.Proofs.YtcahhahbcijkiaaGreat
namespace Go.Proofs.YtcahhahbcijkiaaGreat.Ag
set_option maxHeartbeats 12800000
set_option maxRecDepth 100000
set_option linter.unusedSimpArgs false
set_option linter.unusedVariables false
open Go.RowKit
structure Ipr (mo : Nat) (ks : List Kd) (n : Nat) (r : List Int × Int × List Kd) : Prop where
 pre : ks <+: r.2.2
 room : r.2.2.length ≤ mo + 1
 ok : r.2.1 = 0 → insL r.2.2 = insL ks ++ r.1 ∧ r.1.length = n ∧ (∀ x ∈ r.1, 0 ≤ x ∧ x < 2 * (r.2.2.length : Int)) ∧ r.2.2.length = ks.length + n
 no : r.2.1 ≠ 0 → r.2.1 = 81 ∧ r.1 = [] ∧ r.2.2.length = mo + 1 ∧ ∃ E, insL r.2.2 = insL ks ++ E ∧ r.2.2.length = ks.length + E.length
theorem ipK_pr {mo : Nat} {ks : List Kd} (hp : 0 < ks.length) (hr : ks.length ≤ mo + 1) : ∀ n, Ipr mo ks n (ipK mo ks n)
 | 0 => ⟨List.prefix_refl _, hr, fun _ => ⟨by show insL ks = insL ks ++ []; rw [List.append_nil], rfl, (fun x hx => nomatch hx), rfl⟩, fun e => absurd rfl e⟩
 | n + 1 => by
  have ih := ipK_pr hp hr n
  by_cases h0 : (ipK mo ks n).2.1 = 0
  ·have e1 : ipK mo ks (n + 1) = if (ipK mo ks n).2.2.length = mo + 1 then ([], 81, (ipK mo ks n).2.2) else ((ipK mo ks n).1 ++ [2 * ((ipK mo ks n).2.2.length : Int)], 0, (ipK mo ks n).2.2 ++ [(0, 0)]) := by
    show (if (ipK mo ks n).2.1 ≠ 0 then _ else _) = _
    rw [if_neg (fun q => q h0)]
   obtain ⟨i1, i2, i3, i4⟩ := ih.ok h0
   rw [e1]
   by_cases hf : (ipK mo ks n).2.2.length = mo + 1
   ·rw [if_pos hf]
    exact ⟨ih.pre, ih.room, fun e => absurd e (by show ¬ (81 : Int) = 0; decide), fun _ => ⟨rfl, rfl, hf, (ipK mo ks n).1, i1, by rw [i2]; exact i4⟩⟩
   ·rw [if_neg hf]
    have hroom := ih.room
    refine ⟨ih.pre.trans (List.prefix_append _ _), ?_, fun _ => ⟨?_, ?_, ?_, ?_⟩, fun e => absurd rfl e⟩
    ·show ((ipK mo ks n).2.2 ++ [(0, 0)]).length ≤ _
     rw [List.length_append, List.length_singleton]
     omega
    ·show insL ((ipK mo ks n).2.2 ++ [(0, 0)]) = insL ks ++ ((ipK mo ks n).1 ++ [_])
     rw [insL_snoc, if_pos ⟨rfl, by omega⟩, i1, List.append_assoc]
    ·show ((ipK mo ks n).1 ++ [_]).length = _
     rw [List.length_append, i2]
     rfl
    ·intro x hx
     show 0 ≤ x ∧ x < 2 * ((((ipK mo ks n).2.2 ++ [(0, 0)]).length : Nat) : Int)
     rw [List.length_append, List.length_singleton]
     rcases List.mem_append.1 hx with q | q
     ·have := i3 x q; omega
     ·rw [List.mem_singleton.1 q]; omega
    ·show ((ipK mo ks n).2.2 ++ [(0, 0)]).length = _
     rw [List.length_append, List.length_singleton, i4]
     omega
  ·have e1 : ipK mo ks (n + 1) = ipK mo ks n := by
    show (if (ipK mo ks n).2.1 ≠ 0 then _ else _) = _
    rw [if_pos h0]
   rw [e1]
   exact ⟨ih.pre, ih.room, fun e => absurd e h0, ih.no⟩
end Go.Proofs.YtcahhahbcijkiaaGreat.Ag
namespace Go.Proofs.YtcahhahbcijkiaaGreat
set_option maxHeartbeats 12800000
set_option maxRecDepth 100000
set_option linter.unusedSimpArgs false
set_option linter.unusedVariables false
open Go.RowKit
structure Zok (ns : List Nd) (mo : Nat) (z : Zb) : Prop where
 wd : ∀ id L, z.f id = some L → 1 ≤ id ∧ id ≤ (ns.length : Int) ∧ L.length = wl (nAt ns id).s ∧ Ag.Oks ⟨z.ks, 0⟩ L
 vs : ∀ id ∈ z.ids, (z.f id).isSome = true ∧ (nAt ns id).op = 2
 ins : Ag.insL z.ks = z.ids.flatMap z.gf ∨ (z.ks.length = mo + 1 ∧ (z.ids.flatMap z.gf).length < (Ag.insL z.ks).length)
 pos : 0 < z.ks.length
 room : z.ks.length ≤ mo + 1
theorem oks_len {a b : List Ag.Kd} {L : List Int} (h : Ag.Oks ⟨a, 0⟩ L) (hl : a.length ≤ b.length) : Ag.Oks ⟨b, 0⟩ L := fun x hx => by
 obtain ⟨h1, h2⟩ := h x hx
 refine ⟨h1, ?_⟩
 have h2' : x < 2 * (a.length : Int) := h2
 show x < 2 * (b.length : Int)
 omega
theorem gf_up {z : Zb} {id : Int} {L j : List Int} {ks : List Ag.Kd} {l : List Int} (h : ∀ i ∈ l, (z.f i).isSome = true) (hn : z.f id = none) : l.flatMap (Zb.gf ⟨Ag.upK z.f id L, j, ks⟩) = l.flatMap z.gf := by
 induction l with
 | nil => rfl
 | cons i l ih =>
  have hi : ¬ i = id := fun e => by have := h i (List.mem_cons_self); rw [e, hn] at this; cases this
  have e1 : Zb.gf ⟨Ag.upK z.f id L, j, ks⟩ i = z.gf i := by
   show (if i = id then some L else z.f i).getD [] = _
   rw [if_neg hi]
   rfl
  rw [List.flatMap_cons, List.flatMap_cons, e1]
  congr 1
  exact ih (fun j hj => h j (List.mem_cons_of_mem _ hj))
theorem liS_ok {ns : List Nd} {mo : Nat} {z : Zb} {id : Int} (h : Zok ns mo z) (h1 : 1 ≤ id) (h2 : id ≤ (ns.length : Int)) : Zok ns mo (liS ns mo z id).1 ∧ ((liS ns mo z id).2 ≠ 0 → (liS ns mo z id).2 = 81 ∧ (liS ns mo z id).1.ks.length = mo + 1) ∧ ((liS ns mo z id).2 = 0 → (nAt ns id).op = 2 → ((liS ns mo z id).1.f id).isSome = true) := by
 unfold liS
 split
 ·rename_i hc
  refine ⟨h, fun e => absurd rfl e, fun _ ho => ?_⟩
  rcases hc with q | q
  ·exact absurd ho q
  ·exact q
 ·rename_i hc
  have hop : (nAt ns id).op = 2 := Classical.not_not.1 (fun e => hc (Or.inl e))
  have hf : z.f id = none := by
   cases e : z.f id with
   | none => rfl
   | some L => exact absurd (Or.inr (by rw [e]; rfl)) hc
  have hr := Ag.ipK_pr h.pos h.room (wl (nAt ns id).s)
  obtain ⟨r, hre⟩ : ∃ r, r = Ag.ipK mo z.ks (wl (nAt ns id).s) := ⟨_, rfl⟩
  rw [← hre] at hr ⊢
  have hpl := hr.pre.length_le
  have hpos := h.pos
  split
  ·rename_i he
   obtain ⟨e1, e2, e3, E, e4, e5⟩ := hr.no he
   refine ⟨⟨fun i L hi => ?_, h.vs, ?_, by show 0 < r.2.2.length; omega, hr.room⟩, fun _ => ⟨e1, e3⟩, fun e => absurd e he⟩
   ·obtain ⟨a1, a2, a3, a4⟩ := h.wd i L hi
    exact ⟨a1, a2, a3, oks_len a4 hpl⟩
   ·show Ag.insL r.2.2 = z.ids.flatMap z.gf ∨ (r.2.2.length = mo + 1 ∧ (z.ids.flatMap z.gf).length < (Ag.insL r.2.2).length)
    rw [e4]
    rcases h.ins with q | ⟨q1, q2⟩
    ·cases E with
     | nil => left; rw [List.append_nil]; exact q
     | cons x E => right; refine ⟨e3, ?_⟩; rw [← q, List.length_append, List.length_cons]; omega
    ·right; refine ⟨e3, ?_⟩; rw [List.length_append]; omega
  ·rename_i he
   have he0 : r.2.1 = 0 := Classical.not_not.1 he
   obtain ⟨e1, e2, e3, e4⟩ := hr.ok he0
   have hup : ∀ i, ¬ i = id → Ag.upK z.f id r.1 i = z.f i := fun i hi => by unfold Ag.upK; rw [if_neg hi]
   have hid : Ag.upK z.f id r.1 id = some r.1 := by unfold Ag.upK; rw [if_pos rfl]
   refine ⟨⟨fun i L hi => ?_, fun i hi => ?_, ?_, by show 0 < r.2.2.length; omega, hr.room⟩, fun e => absurd rfl e, fun _ _ => by show (Ag.upK z.f id r.1 id).isSome = true; rw [hid]; rfl⟩
   ·by_cases hii : i = id
    ·subst hii
     have hi' : Ag.upK z.f i r.1 i = some L := hi
     rw [hid] at hi'
     injection hi' with hi'
     rw [← hi']
     exact ⟨h1, h2, e2, e3⟩
    ·have hi' : Ag.upK z.f id r.1 i = some L := hi
     rw [hup i hii] at hi'
     obtain ⟨a1, a2, a3, a4⟩ := h.wd i L hi'
     exact ⟨a1, a2, a3, oks_len a4 hpl⟩
   ·rcases List.mem_append.1 hi with q | q
    ·have hne : ¬ i = id := fun e => by have := (h.vs i q).1; rw [e, hf] at this; cases this
     refine ⟨?_, (h.vs i q).2⟩
     show (Ag.upK z.f id r.1 i).isSome = true
     rw [hup i hne]
     exact (h.vs i q).1
    ·rw [List.mem_singleton.1 q]
     exact ⟨by show (Ag.upK z.f id r.1 id).isSome = true; rw [hid]; rfl, hop⟩
   ·show Ag.insL r.2.2 = (z.ids ++ [id]).flatMap (Zb.gf ⟨Ag.upK z.f id r.1, z.ids ++ [id], r.2.2⟩) ∨ (r.2.2.length = mo + 1 ∧ ((z.ids ++ [id]).flatMap (Zb.gf ⟨Ag.upK z.f id r.1, z.ids ++ [id], r.2.2⟩)).length < (Ag.insL r.2.2).length)
    have eg : (z.ids ++ [id]).flatMap (Zb.gf ⟨Ag.upK z.f id r.1, z.ids ++ [id], r.2.2⟩) = z.ids.flatMap z.gf ++ r.1 := by
     rw [List.flatMap_append]
     congr 1
     ·exact gf_up (ks := r.2.2) (fun i hi => (h.vs i hi).1) hf
     ·rw [List.flatMap_cons, List.flatMap_nil, List.append_nil]
      show (Ag.upK z.f id r.1 id).getD [] = r.1
      rw [hid]
      rfl
    rw [eg, e1]
    rcases h.ins with q | ⟨q1, q2⟩
    ·left; rw [q]
    ·right
     refine ⟨by have := hr.room; omega, ?_⟩
     rw [List.length_append, List.length_append]
     omega
open Go.RowKit
theorem lcS_ok {ns : List Nd} {mo : Nat} {z : Zb} {id : Int} (h : Zok ns mo z) (h1 : 1 ≤ id) (h2 : id ≤ (ns.length : Int)) (hw : z.f id = none → Ag.WOk ⟨z.ks, 0⟩ (cirZ ns mo z id) (wl (nAt ns id).s)) (hk : z.f id = none → (cirZ ns mo z id).2.r = 0 ∨ ((cirZ ns mo z id).2.r = 81 ∧ (cirZ ns mo z id).2.ks.length = mo + 1)) (hm : z.f id = none → (cirZ ns mo z id).2.ks.length ≤ mo + 1) :
  Zok ns mo (lcS ns mo z id).1 ∧ ((lcS ns mo z id).2 ≠ 0 → (lcS ns mo z id).2 = 81 ∧ (lcS ns mo z id).1.ks.length = mo + 1) ∧ ((lcS ns mo z id).2 = 0 → ((lcS ns mo z id).1.f id).isSome = true) ∧ (lcS ns mo z id).1.ids = z.ids := by
 unfold lcS
 split
 ·rename_i hc
  exact ⟨h, fun e => absurd rfl e, fun _ => hc, rfl⟩
 ·rename_i hc
  have hf : z.f id = none := by
   cases e : z.f id with
   | none => rfl
   | some L => exact absurd (by rw [e]; rfl) hc
  have hw := hw hf
  have hk := hk hf
  have hm := hm hf
  obtain ⟨R, hR⟩ : ∃ R, R = cirZ ns mo z id := ⟨_, rfl⟩
  rw [← hR] at hw hk hm ⊢
  have hpl : z.ks.length ≤ R.2.ks.length := hw.pre.length_le
  have hin : Ag.insL R.2.ks = Ag.insL z.ks := hw.pre.ins
  have hpos := h.pos
  split
  ·rename_i he
   obtain ⟨e1, e2⟩ := hk.resolve_left he
   refine ⟨⟨fun i L hi => ?_, h.vs, ?_, by show 0 < R.2.ks.length; omega, hm⟩, fun _ => ⟨e1, e2⟩, fun e => absurd e he, rfl⟩
   ·obtain ⟨a1, a2, a3, a4⟩ := h.wd i L hi
    exact ⟨a1, a2, a3, oks_len a4 hpl⟩
   ·show Ag.insL R.2.ks = z.ids.flatMap z.gf ∨ (R.2.ks.length = mo + 1 ∧ (z.ids.flatMap z.gf).length < (Ag.insL R.2.ks).length)
    rw [hin]
    rcases h.ins with q | ⟨q1, q2⟩
    ·exact Or.inl q
    ·exact Or.inr ⟨e2, q2⟩
  ·rename_i he
   have he0 : R.2.r = 0 := Classical.not_not.1 he
   have hup : ∀ i, ¬ i = id → Ag.upK z.f id R.1 i = z.f i := fun i hi => by unfold Ag.upK; rw [if_neg hi]
   have hid : Ag.upK z.f id R.1 id = some R.1 := by unfold Ag.upK; rw [if_pos rfl]
   refine ⟨⟨fun i L hi => ?_, fun i hi => ?_, ?_, by show 0 < R.2.ks.length; omega, hm⟩, fun e => absurd rfl e, fun _ => by show (Ag.upK z.f id R.1 id).isSome = true; rw [hid]; rfl, rfl⟩
   ·by_cases hii : i = id
    ·subst hii
     have hi' : Ag.upK z.f i R.1 i = some L := hi
     rw [hid] at hi'
     injection hi' with hi'
     rw [← hi']
     refine ⟨h1, h2, hw.len, fun x hx => ?_⟩
     exact hw.ok x hx
    ·have hi' : Ag.upK z.f id R.1 i = some L := hi
     rw [hup i hii] at hi'
     obtain ⟨a1, a2, a3, a4⟩ := h.wd i L hi'
     exact ⟨a1, a2, a3, oks_len a4 hpl⟩
   ·have hne : ¬ i = id := fun e => by have := (h.vs i hi).1; rw [e, hf] at this; cases this
    refine ⟨?_, (h.vs i hi).2⟩
    show (Ag.upK z.f id R.1 i).isSome = true
    rw [hup i hne]
    exact (h.vs i hi).1
   ·show Ag.insL R.2.ks = z.ids.flatMap (Zb.gf ⟨Ag.upK z.f id R.1, z.ids, R.2.ks⟩) ∨ (R.2.ks.length = mo + 1 ∧ (z.ids.flatMap (Zb.gf ⟨Ag.upK z.f id R.1, z.ids, R.2.ks⟩)).length < (Ag.insL R.2.ks).length)
    rw [gf_up (fun i hi => (h.vs i hi).1) hf, hin]
    rcases h.ins with q | ⟨q1, q2⟩
    ·exact Or.inl q
    ·exact Or.inr ⟨by omega, q2⟩
open Go.RowKit
def Kid (n : Nd) (j : Nat) : Prop := (j : Int) = n.a ∨ (j : Int) = n.b ∨ (j : Int) = n.c
inductive Rch (ns : List Nd) (id : Nat) : Nat → Prop
 | here : Rch ns id id
 | step {i j : Nat} {n : Nd} : Rch ns id i → 1 ≤ i → ns[i - 1]? = some n → Kid n j → Rch ns id j
theorem kid_lt {ns : List Nd} (hv : Inv ns) {i j : Nat} {n : Nd} (h1 : 1 ≤ i) (hn : ns[i - 1]? = some n) (hk : Kid n j) : j < i := by
 have := hv.kids (i - 1) n hn
 rcases hk with h | h | h <;> omega
theorem Rch.le {ns : List Nd} (hv : Inv ns) {id j : Nat} (h : Rch ns id j) : j ≤ id := by
 induction h with
 | here => exact Nat.le_refl _
 | step _ h1 hn hk ih => have := kid_lt hv h1 hn hk; omega
theorem Rch.nought {ns : List Nd} (hv : Inv ns) {j : Nat} (h : Rch ns 0 j) : j = 0 := by have := h.le hv; omega
structure Way (ns : List Nd) (id t : Nat) : Prop where
 only : ∀ j, (dn ns id t).1 j = true → Rch ns id j
 top : (dn ns id t).1 id = true
 shut : ∀ (i : Nat) (n : Nd), id - t < i → i ≤ id → (dn ns id t).1 i = true → ns[i - 1]? = some n → ∀ j, Kid n j → (dn ns id t).1 j = true
 list : (dn ns id t).2.reverse = ((List.range' (id - t + 1) t).filter (dn ns id t).1).map (fun j : Nat => (j : Int))
theorem way_any {ns : List Nd} (hv : Inv ns) {id : Nat} (hid : id ≤ ns.length) : ∀ t, t ≤ id → Way ns id t
 | 0, _ => ⟨fun j hj => by
   have : j = id := of_decide_eq_true hj
   rw [this]; exact .here, decide_eq_true rfl, fun i n h1 h2 => by omega, rfl⟩
 | t + 1, ht => by
  have ih := way_any hv hid t (by omega)
  obtain ⟨k, hk⟩ : ∃ k, id = k + 1 + t := ⟨id - t - 1, by omega⟩
  have e1 : id - (k + 1) = t := by omega
  have e2 : id - k = t + 1 := by omega
  have e3 : id - t = k + 1 := by omega
  have e4 : id - (t + 1) = k := by omega
  obtain ⟨n, hn⟩ : ∃ n, ns[k]? = some n := ⟨_, List.getElem?_eq_getElem (by omega)⟩
  have er : List.range' (k + 1) (t + 1) = (k + 1) :: List.range' (k + 1 + 1) t := rfl
  have hl := ih.list
  rw [e3] at hl
  by_cases hm : (dn ns id t).1 (k + 1) = true
  ·have h := dn_yes (ns := ns) (id := id) (k := k) (by omega) (by rw [e1]; exact hm) hn
   rw [e1, e2] at h
   have hM : ∀ j, (dn ns id (t + 1)).1 j = true ↔ ((dn ns id t).1 j = true ∨ Kid n j) := fun j => by
    rw [h]
    simp only [Bool.or_eq_true, decide_eq_true_eq, Kid]
    constructor
    ·rintro (((h | h) | h) | h)
     ·exact Or.inl h
     ·exact Or.inr (Or.inl h)
     ·exact Or.inr (Or.inr (Or.inl h))
     ·exact Or.inr (Or.inr (Or.inr h))
    ·rintro (h | h | h | h)
     ·exact Or.inl (Or.inl (Or.inl h))
     ·exact Or.inl (Or.inl (Or.inr h))
     ·exact Or.inl (Or.inr h)
     ·exact Or.inr h
   have hL : (dn ns id (t + 1)).2 = (dn ns id t).2 ++ [((k + 1 : Nat) : Int)] := by rw [h]; rfl
   have hkid : ∀ j, Kid n j → j < k + 1 := fun j hj => kid_lt hv (i := k + 1) (by omega) (by simpa using hn) hj
   refine ⟨fun j hj => ?_, (hM _).2 (Or.inl ih.top), fun i n' h1 h2 hi hn' j hj => ?_, ?_⟩
   ·rcases (hM j).1 hj with h | h
    ·exact ih.only j h
    ·exact .step (ih.only _ hm) (by omega) (by simpa using hn) h
   ·rw [e4] at h1
    by_cases hik : i = k + 1
    ·subst hik
     have : n' = n := by simpa [hn] using hn'.symm
     subst this
     exact (hM j).2 (Or.inr hj)
    ·have hi' : (dn ns id t).1 i = true := by
      rcases (hM i).1 hi with h | h
      ·exact h
      ·have := hkid i h; omega
     exact (hM j).2 (Or.inl (ih.shut i n' (by omega) h2 hi' hn' j hj))
   ·rw [hL, List.reverse_append, hl, e4, er]
    have hf : (List.range' (k + 1 + 1) t).filter (dn ns id (t + 1)).1 = (List.range' (k + 1 + 1) t).filter (dn ns id t).1 := by
     apply List.filter_congr
     intro j hj
     have hj' : k + 1 + 1 ≤ j := (List.mem_range'_1.1 hj).1
     cases e : (dn ns id t).1 j
     ·cases e' : (dn ns id (t + 1)).1 j
      ·rfl
      ·rcases (hM j).1 e' with h | h
       ·rw [e] at h; cases h
       ·have := hkid j h; omega
     ·exact (hM j).2 (Or.inl e)
    rw [List.filter_cons, if_pos ((hM _).2 (Or.inl hm)), hf]
    rfl
  ·rw [Bool.not_eq_true] at hm
   have h := dn_no (ns := ns) (id := id) (k := k) (by omega) (by rw [e1]; exact hm)
   rw [e1, e2] at h
   refine ⟨fun j hj => ih.only j (by rw [h] at hj; exact hj), by rw [h]; exact ih.top, fun i n' h1 h2 hi hn' j hj => ?_, ?_⟩
   ·rw [e4] at h1
    rw [h] at hi ⊢
    by_cases hik : i = k + 1
    ·subst hik; rw [hm] at hi; cases hi
    ·exact ih.shut i n' (by omega) h2 hi hn' j hj
   ·rw [h, hl, e4, er, List.filter_cons, if_neg (by rw [hm]; decide)]
theorem cone_list {ns : List Nd} (hv : Inv ns) {id : Nat} (hid : id ≤ ns.length) : coneF ns id = ((List.range' 1 id).filter (dn ns id id).1).map (fun j : Nat => (j : Int)) := by
 have h := (way_any hv hid id (Nat.le_refl _)).list
 rw [Nat.sub_self] at h
 exact h
theorem mark_iff {ns : List Nd} (hv : Inv ns) {id : Nat} (hid : id ≤ ns.length) {j : Nat} : (dn ns id id).1 j = true ↔ Rch ns id j := by
 have hw := way_any hv hid id (Nat.le_refl _)
 refine ⟨hw.only j, fun h => ?_⟩
 induction h with
 | here => exact hw.top
 | step hr h1 hn hk ih => exact hw.shut _ _ (by omega) (hr.le hv) ih hn _ hk
theorem mem_cone {ns : List Nd} (hv : Inv ns) {id : Nat} (hid : id ≤ ns.length) {j : Nat} : (j : Int) ∈ coneF ns id ↔ 1 ≤ j ∧ Rch ns id j := by
 rw [cone_list hv hid]
 constructor
 ·intro h
  obtain ⟨x, hx, e⟩ := List.mem_map.1 h
  obtain rfl : x = j := by have e1 : (x : Int) = j := e; omega
  obtain ⟨h1, h2⟩ := List.mem_filter.1 hx
  exact ⟨(List.mem_range'_1.1 h1).1, (mark_iff hv hid).1 h2⟩
 ·rintro ⟨h1, h2⟩
  refine List.mem_map.2 ⟨j, List.mem_filter.2 ⟨List.mem_range'_1.2 ⟨h1, ?_⟩, (mark_iff hv hid).2 h2⟩, rfl⟩
  have := h2.le hv
  omega
theorem cone_in {ns : List Nd} (hv : Inv ns) {i x : Int} (h : x ∈ coneL ns i) : 1 ≤ x ∧ x ≤ i ∧ i ≤ (ns.length : Int) := by
 unfold coneL at h
 split at h
 ·rename_i hb
  have hb' : 1 ≤ i ∧ i ≤ (ns.length : Int) := by simpa [hasB] using hb
  have hid : i.toNat ≤ ns.length := by omega
  rw [cone_list hv hid] at h
  obtain ⟨y, hy, rfl⟩ := List.mem_map.1 h
  obtain ⟨h1, -⟩ := List.mem_filter.1 hy
  have := List.mem_range'_1.1 h1
  omega
 ·cases h
theorem mem_coneL {ns : List Nd} (hv : Inv ns) {i j : Nat} (h1 : 1 ≤ j) (hi : i ≤ ns.length) : (j : Int) ∈ coneL ns (i : Int) ↔ Rch ns i j := by
 unfold coneL
 by_cases h0 : 1 ≤ i
 ·rw [if_pos (by simp [hasB]; omega), Int.toNat_natCast, mem_cone hv hi]
  exact ⟨fun h => h.2, fun h => ⟨h1, h⟩⟩
 ·obtain rfl : i = 0 := by omega
  rw [if_neg (by simp [hasB])]
  exact ⟨(fun h => nomatch h), fun h => by have := h.nought hv; omega⟩
open Go.RowKit
theorem underStrs : Tryz.prog.underlying 54 = some (.slice 9) := by kernel_rfl
theorem infoStr : (Tryz.prog.info? 9).map (fun i => (i.zero, i.size, i.bytes)) = some (some (.string ⟨#[]⟩), 1, 16) := by kernel_rfl
def Str (cs : List Value) : Prop := ∀ x ∈ cs, ∃ s, x = .string s
structure Ss (w : World) (base : Nat) (v : Value) (xs : List Value) : Prop where
 row : w.ownsRow base 9 1 v xs.length xs
 all : ∀ q cur, v.ownBlock = some q → w.heap[q]? = some (.cells cur 9 (0, 0)) → Str cur.toList
theorem Ss.nil (w : World) (base : Nat) : Ss w base (.slice none 0 0) [] := ⟨World.ownsRow_nil _ _ _ _, (fun q cur e => by cases e)⟩
theorem Ss.kept {w w' : World} {base : Nat} {v : Value} {xs : List Value} (h : Ss w base v xs) (hk : ∀ q, v.ownBlock = some q → w'.heap[q]? = w.heap[q]?) : Ss w' base v xs :=
 ⟨Ag.row_own h.row hk, fun q cur e hq => h.all q cur e (by rw [← hk q e]; exact hq)⟩
theorem Ss.str {w : World} {base : Nat} {v : Value} {xs : List Value} (h : Ss w base v xs) : Str xs := by
 rcases h.row.2 with ⟨e, e0⟩ | ⟨g, cap, cur, e, hb, hg, hn, hm, hs, ht⟩
 ·rw [List.eq_nil_of_length_eq_zero e0]; exact fun x hx => nomatch hx
 ·intro x hx
  rw [← ht] at hx
  exact h.all g cur (by rw [e]; rfl) hg x (List.mem_of_mem_take hx)
theorem zero_str (n : Nat) : Str (Builtin.zeroCells (Value.string ⟨#[]⟩).cells n).toList := by
 intro x hx
 simp only [Builtin.zeroCells, Value.cells, Array.toList_map, List.mem_map] at hx
 obtain ⟨i, -, rfl⟩ := hx
 exact ⟨⟨#[]⟩, by simp [Nat.mod_one]⟩
theorem str_app {a b : List Value} (ha : Str a) (hb : Str b) : Str (a ++ b) := fun x hx => by
 rcases List.mem_append.1 hx with q | q
 ·exact ha x q
 ·exact hb x q
theorem Ss.append {w : World} {base : Nat} {v : Value} {xs : List Value} (h : Ss w base v xs) (hb : base ≤ w.heap.size) (hl : xs.length ≤ 100000) {ty : TypeId} {a : Addr} {c : Nat} {s : ByteArray} (hn : ∀ j u, [Value.string s][j]? = some u → w.cell? (a.add j) = some u) :
  ∃ v' w', (Builtin.append_ #[54, 54] ty #[v, .slice (some a) 1 c]).run Tryz.prog w = .ok v' w' ∧ Ss w' base v' (xs ++ [.string s]) ∧ w.grownBy w' v.ownBlock ∧ (v'.ownBlock = v.ownBlock ∨ v'.ownBlock = some w.heap.size) := by
 obtain ⟨ti, ht0, hz0, hz1, hz2⟩ := info_any infoStr
 have h63 : xs.length + 1 ≤ maxLen := by unfold maxLen; omega
 obtain ⟨v', w', hr, h2, h3, -, h5⟩ := run_append_own_at (P := Tryz.prog) w base 54 ty 9 ti (.string ⟨#[]⟩) 1 16 underStrs ht0 hz0 hz1 hz2 rfl (by decide) v xs.length xs h.row a 1 c [.string s] rfl hn (fun u hu => by rw [List.mem_singleton.1 hu]; rfl) h63 (by omega) hb
 refine ⟨v', w', hr, ⟨by rw [List.length_append]; exact h2, ?_⟩, h3, h5⟩
 have hS := h.str
 have hone : Str [Value.string s] := fun x hx => ⟨s, List.mem_singleton.1 hx⟩
 rcases h.row.2 with ⟨e, e0⟩ | ⟨g, cap, cur, e, hbg, hg, hnc, hcm, hcs, htake⟩
 ·subst e
  have hr2 := run_append_nil (P := Tryz.prog) w 54 ty 9 ti (.string ⟨#[]⟩) underStrs ht0 hz0 a 1 c [.string s] (by rw [hz1]; rfl) hn (by decide) (by decide) (by rw [hz2]; decide)
  rw [hr] at hr2
  injection hr2 with e1 e2
  subst e1 e2
  intro q cur' hq hcur
  have hq' : w.heap.size = q := by simpa [Value.ownBlock] using hq
  subst hq'
  have hnew : (w.drew.alloc (.cells ([Value.string s].toArray ++ Builtin.zeroCells (Value.string ⟨#[]⟩).cells (grownCap w 1 0 9 - 1)) 9)).heap[w.heap.size]? = some (.cells ([Value.string s].toArray ++ Builtin.zeroCells (Value.string ⟨#[]⟩).cells (grownCap w 1 0 9 - 1)) 9 (0, 0)) := heap_alloc_new w.drew _
  rw [hnew] at hcur
  injection hcur with hcur
  injection hcur with hcur
  rw [← hcur, Array.toList_append]
  exact str_app hone (zero_str _)
 ·subst e
  by_cases hroom : xs.length + 1 ≤ cap
  ·have hr2 := run_append_room (P := Tryz.prog) w 54 ty 9 ti underStrs ht0 g xs.length cap cur hg a 1 c [.string s] (by rw [hz1]; rfl) hn (fun u hu => by rw [List.mem_singleton.1 hu]; rfl) hroom (by rw [hz1, hcs]; simp; omega)
   rw [hr] at hr2
   injection hr2 with e1 e2
   subst e1 e2
   intro q cur' hq hcur
   have hq' : g = q := by simpa [Value.ownBlock] using hq
   subst hq'
   rw [setRow_heap w g cur _ _ _ hg] at hcur
   injection hcur with hcur
   injection hcur with hcur
   rw [← hcur]
   have hc := h.all g cur rfl hg
   exact str_app (str_app (fun x hx => hc x (List.mem_of_mem_take hx)) hone) (fun x hx => hc x (List.mem_of_mem_drop hx))
  ·have holds := h.row.cells (g := g) rfl
   have hr2 := run_append_grow (P := Tryz.prog) w 54 ty 9 ti (.string ⟨#[]⟩) underStrs ht0 hz0 ⟨g, 0, none⟩ xs.length cap xs (by rw [hz1, Nat.mul_one]) holds a 1 c [.string s] (by rw [hz1]; rfl) hn (by omega) (by omega) (growslice_fits (by omega) (by rw [hz2]; omega))
   rw [hr] at hr2
   injection hr2 with e1 e2
   subst e1 e2
   intro q cur' hq hcur
   have hq' : w.heap.size = q := by simpa [Value.ownBlock] using hq
   subst hq'
   have hnew : (w.drew.alloc (.cells (xs.toArray ++ [Value.string s].toArray ++ Builtin.zeroCells (Value.string ⟨#[]⟩).cells (grownCap w (xs.length + 1) cap 9 - (xs.length + 1))) 9)).heap[w.heap.size]? = some (.cells (xs.toArray ++ [Value.string s].toArray ++ Builtin.zeroCells (Value.string ⟨#[]⟩).cells (grownCap w (xs.length + 1) cap 9 - (xs.length + 1))) 9 (0, 0)) := heap_alloc_new w.drew _
   rw [hnew] at hcur
   injection hcur with hcur
   injection hcur with hcur
   rw [← hcur, Array.toList_append, Array.toList_append]
   exact str_app (str_app hS hone) (zero_str _)
end Go.Proofs.YtcahhahbcijkiaaGreat
