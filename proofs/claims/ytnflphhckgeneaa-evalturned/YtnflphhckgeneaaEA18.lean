/- The chapter's examples (values of terms): what each call answers. (Made by a script.) -/
import Derived.Test.YtnflphhckgeneaaMg31
import Derived.Test.YtnflphhckgeneaaK
import Derived.Test.YtnflphhckgeneaaO2
namespace Go.Proofs.Ytnflphhckgeneaa
open Go.RowKit
set_option linter.unusedSimpArgs false
set_option linter.unusedVariables false

def b9 : Bt := ⟨4, 9, 0⟩
def b2 : Bt := ⟨4, 2, 0⟩
def M3 : Nd := ⟨29, 0, 1, 2, 0, 0, 0, 0, 0, 0, ⟨#[]⟩⟩
def K3 : List Nd := [N1, N2, M3]
def F3 : List (Int × Bt) := [(1, b9), (2, b2), (3, zBt)]
def pvk (p : Int) : Bt := if p = 1 then b9 else if p = 2 then b2 else zBt
theorem bk9 : Bk b9 := ⟨by decide, by decide, by decide, by decide⟩
theorem bk2 : Bk b2 := ⟨by decide, by decide, by decide, by decide⟩
theorem Lb.two {w : World} {g o : Nat} {a b c : Bt} (h : Lb w g o [a, b, c]) : Lb w g o [a, b] := fun j x hj t u hu => h j x (by
  match j, hj with
  | 0, hj => exact hj
  | 1, hj => exact hj
  | k + 2, hj => simp at hj) t u hu
theorem wd9 : Wd 4 9 0 4 9 := ⟨by decide, by decide, by decide, rfl, rfl, rfl⟩
theorem wd2 : Wd 4 2 0 4 2 := ⟨by decide, by decide, by decide, rfl, rfl, rfl⟩

section
variable {w : World} {B g mi mv mo wb mg mk : Nat} {v : Value} {G M : List (Int × Bt)}
theorem pk1 (h : Gr w B g mi mv v mo K3) (hw : Wk w wb g mg mk [(1, b9)] M) :
    Calls Try.prog 56 #[.pointer (some ⟨wb, 0, none⟩), .int .i64 1] w fun e w' => e = .returned (.tuple #[.agg #[.int .i64 b9.w, .int .u64 b9.lo, .int .u64 b9.hi], .int .i64 0]) ∧ Below w.heap.size w w' :=
  pv_var (i := 0) (n := N1) (u := b9) (ok := true) h hw rfl rfl (fun wx hb => fit_any (hw.below hb).gv (by unfold w64; decide) (fun p hp => by rw [List.mem_singleton.1 hp]; exact bk9))
theorem pk1n (h : Gr w B g mi mv v mo K3) (hw : Wk w wb g mg mk [] M) :
    Calls Try.prog 56 #[.pointer (some ⟨wb, 0, none⟩), .int .i64 1] w fun e w' => e = .returned (.tuple #[.agg #[.int .i64 zBt.w, .int .u64 zBt.lo, .int .u64 zBt.hi], .int .i64 41]) ∧ Below w.heap.size w w' :=
  pv_var (i := 0) (n := N1) (u := zBt) (ok := false) h hw rfl rfl (fun wx hb => fit_any (hw.below hb).gv (by unfold w64; decide) (fun p hp => nomatch hp))
theorem pk2 (h : Gr w B g mi mv v mo K3) (hw : Wk w wb g mg mk G M) (h1 : getM M 1 = some b9) :
    Calls Try.prog 56 #[.pointer (some ⟨wb, 0, none⟩), .int .i64 2] w fun e w' => e = .returned (.tuple #[.agg #[.int .i64 b2.w, .int .u64 b2.lo, .int .u64 b2.hi], .int .i64 0]) ∧ Below w.heap.size w w' :=
  pv_op2 (i := 1) (n := N2) (va := b9) (vb := b9) (vc := (getM M 0).getD zBt) (r := b2) (er := 0) h hw rfl (by decide) (by decide) (by unfold w64; decide) (by unfold w64; decide) (by unfold w64; decide) (by show b9 = (getM M 1).getD zBt; rw [h1]; rfl) (by show b9 = (getM M 1).getD zBt; rw [h1]; rfl) rfl
    (fun wx => arity_any 18 wx) (fun wx gb _ hgb hl => apply_two (s := 4) (by decide) (by decide) hl.two hgb bk9 bk9 (by decide) (fun wy => two_add wd9 wd9 wy))
theorem pk3 (h : Gr w B g mi mv v mo K3) (hw : Wk w wb g mg mk G M) (h1 : getM M 1 = some b9) (h2 : getM M 2 = some b2) :
    Calls Try.prog 56 #[.pointer (some ⟨wb, 0, none⟩), .int .i64 3] w fun e w' => e = .returned (.tuple #[.agg #[.int .i64 zBt.w, .int .u64 zBt.lo, .int .u64 zBt.hi], .int .i64 0]) ∧ Below w.heap.size w w' :=
  pv_op2 (i := 2) (n := M3) (va := b9) (vb := b2) (vc := (getM M 0).getD zBt) (r := zBt) (er := 0) h hw rfl (by decide) (by decide) (by unfold w64; decide) (by unfold w64; decide) (by unfold w64; decide) (by show b9 = (getM M 1).getD zBt; rw [h1]; rfl) (by show b2 = (getM M 2).getD zBt; rw [h2]; rfl) rfl
    (fun wx => arity_any 29 wx) (fun wx gb _ hgb hl => apply_two (s := 0) (by decide) (by decide) hl.two hgb bk9 bk2 (by decide) (fun wy => two_cmp (k := 0) rfl (by decide) wd9 wd2 wy))
theorem vk (HG : Hid (∀ wx, w.grownBy wx (some mk) → Gr wx B g mi mv v mo K3)) {j id : Nat} (hc : (j = 0 ∧ (id = 1 ∨ id = 2 ∨ id = 3)) ∨ (j = 1 ∧ id = 2)) (hw : Wk w wb g mg mk [(1, b9)] (F3.take j)) :
    Calls Try.prog 18 #[.pointer (some ⟨wb, 0, none⟩), .int .i64 (id : Int)] w fun e w' => e = .returned (.tuple #[.agg #[.int .i64 (pvk (id : Int)).w, .int .u64 (pvk (id : Int)).lo, .int .u64 (pvk (id : Int)).hi], .int .i64 0]) ∧ Wk w' wb g mg mk [(1, b9)] (F3.take id) ∧ w.grownBy w' (some mk) := by
  refine val_loop (L := (List.range id).map fun (i : Nat) => (i : Int) + 1) (PV := fun _ p => (pvk p, 0)) (I := fun k M' => M' = F3.take (max j k)) HG hw ?_ ?_ ?_ ?_ ?_ ?_ ?_ ?_ ?_ ?_
  · rcases hc with ⟨rfl, rfl | rfl | rfl⟩ | ⟨rfl, rfl⟩ <;> (unfold w64; decide)
  · rcases hc with ⟨rfl, rfl | rfl | rfl⟩ | ⟨rfl, rfl⟩ <;> rfl
  · rcases hc with ⟨rfl, rfl | rfl | rfl⟩ | ⟨rfl, rfl⟩ <;> rfl
  · rcases hc with ⟨rfl, rfl | rfl | rfl⟩ | ⟨rfl, rfl⟩ <;> decide
  · rcases hc with ⟨rfl, rfl | rfl | rfl⟩ | ⟨rfl, rfl⟩ <;> decide
  · intro k p M' wx hk hI hg hW
    subst hI
    have hG := HG.out wx hg
    have hkl : k < id := by
      have := (List.getElem?_eq_some_iff.1 hk).1
      simpa using this
    obtain rfl : (k : Int) + 1 = p := by
      rw [List.getElem?_map, List.getElem?_range hkl] at hk
      exact Option.some.inj hk
    have hk3 : k = 0 ∨ k = 1 ∨ k = 2 := by omega
    rcases hk3 with rfl | rfl | rfl
    · exact pk1 hG hW
    · refine pk2 hG hW ?_
      rcases hc with ⟨rfl, _⟩ | ⟨rfl, _⟩ <;> rfl
    · refine pk3 hG hW ?_ ?_ <;> rcases hc with ⟨rfl, _⟩ | ⟨rfl, _⟩ <;> rfl
  · rcases hc with ⟨rfl, _⟩ | ⟨rfl, _⟩ <;> rfl
  · intro k p M' hk hI
    subst hI
    have hkl : k < id := by
      have := (List.getElem?_eq_some_iff.1 hk).1
      simpa using this
    obtain rfl : (k : Int) + 1 = p := by
      rw [List.getElem?_map, List.getElem?_range hkl] at hk
      exact Option.some.inj hk
    have hk3 : k = 0 ∨ k = 1 ∨ k = 2 := by omega
    rcases hc with ⟨rfl, _⟩ | ⟨rfl, _⟩ <;> rcases hk3 with rfl | rfl | rfl <;> first | exact ⟨(fun h => by cases h), (fun _ _ => rfl)⟩ | exact ⟨(fun _ => rfl), (fun h => by cases h)⟩ | omega
  · rcases hc with ⟨rfl, rfl | rfl | rfl⟩ | ⟨rfl, rfl⟩ <;> rfl
  · rcases hc with ⟨rfl, rfl | rfl | rfl⟩ | ⟨rfl, rfl⟩ <;> rfl
theorem vk3n (HG : Hid (∀ wx, w.grownBy wx (some mk) → Gr wx B g mi mv v mo K3)) (hw : Wk w wb g mg mk [] []) :
    Calls Try.prog 18 #[.pointer (some ⟨wb, 0, none⟩), .int .i64 3] w fun e w' => e = .returned (.tuple #[.agg #[.int .i64 zBt.w, .int .u64 zBt.lo, .int .u64 zBt.hi], .int .i64 41]) ∧ Wk w' wb g mg mk [] [] ∧ w.grownBy w' (some mk) := by
  refine val_loop (L := [1, 2, 3]) (PV := fun _ _ => (zBt, 41)) (I := fun k M' => k = 0 ∧ M' = []) HG hw (by unfold w64; decide) rfl rfl (by decide) (by decide) ?_ ⟨rfl, rfl⟩ ?_ rfl rfl
  · rintro k p M' wx hk ⟨rfl, rfl⟩ hg hW
    obtain rfl : (1 : Int) = p := Option.some.inj hk
    exact pk1n (HG.out wx hg) hW
  · rintro k p M' hk ⟨rfl, rfl⟩
    exact ⟨(fun h => by cases h), (fun _ h => by cases h)⟩
end

def Ex : Nv := ⟨⟨#[120]⟩, b9⟩
theorem fvE : fvF K3 [Ex] = [(1, b9)] := by rfl
theorem gr_of {w wx : World} {B g mi mv mo mk : Nat} {v : Value} {ns : List Nd} (h : Gr w B g mi mv v mo ns) (hb : Below w.heap.size w wx) (hmk : w.heap.size ≤ mk) : Hid (∀ wy, wx.grownBy wy (some mk) → Gr wy B g mi mv v mo ns) :=
  fun wy hy => h.kept fun k hk => (hy.block k (Nat.lt_of_lt_of_le hk hb.size) (fun e => by cases e; omega)).trans (hb.block k hk)
section
variable {w : World} {B g mi mv mo c : Nat} {v : Value} {a : Option Addr}
theorem ek (h : Gr w B g mi mv v mo K3) (he : Le w a [Ex]) {id : Nat} (hid : id = 1 ∨ id = 2 ∨ id = 3) :
    Calls Try.prog 8 #[.pointer (some ⟨g, 0, none⟩), .int .i64 (id : Int), .slice a 1 c] w fun e w' => e = .returned (.tuple #[.agg #[.int .i64 (pvk (id : Int)).w, .int .u64 (pvk (id : Int)).lo, .int .u64 (pvk (id : Int)).hi], .int .i64 0]) ∧ Below w.heap.size w w' := by
  refine eval_of (l := [Ex]) h he (fun x hx => by rw [List.mem_singleton.1 hx]; decide) (by decide) ?_
  intro wx wb mg mk hb hmk hW
  rw [fvE] at hW
  exact (vk (gr_of h hb hmk) (j := 0) (Or.inl ⟨rfl, hid⟩) hW).mono (fun e w' hh => ⟨hh.1, hh.2.2⟩)
theorem ek4 (h : Gr w B g mi mv v mo K3) (he : Le w a [Ex]) :
    Calls Try.prog 8 #[.pointer (some ⟨g, 0, none⟩), .int .i64 4, .slice a 1 c] w fun e w' => e = .returned (.tuple #[.agg #[.int .i64 zBt.w, .int .u64 zBt.lo, .int .u64 zBt.hi], .int .i64 40]) ∧ Below w.heap.size w w' := by
  refine eval_of (l := [Ex]) h he (fun x hx => by rw [List.mem_singleton.1 hx]; decide) (by decide) ?_
  intro wx wb mg mk hb hmk hW
  exact (val_none (h.below hb) hW (by unfold w64; decide) rfl rfl).mono (fun e w' hh => ⟨hh.1, gb_below hh.2⟩)
theorem ek3n (h : Gr w B g mi mv v mo K3) :
    Calls Try.prog 8 #[.pointer (some ⟨g, 0, none⟩), .int .i64 3, .slice none 0 0] w fun e w' => e = .returned (.tuple #[.agg #[.int .i64 zBt.w, .int .u64 zBt.lo, .int .u64 zBt.hi], .int .i64 41]) ∧ Below w.heap.size w w' := by
  refine eval_of (l := []) (c := 0) h (Or.inl rfl) (fun x hx => nomatch hx) (by decide) ?_
  intro wx wb mg mk hb hmk hW
  exact (vk3n (gr_of h hb hmk) hW).mono (fun e w' hh => ⟨hh.1, hh.2.2⟩)
theorem ak (h : Gr w B g mi mv v mo K3) (he : Le w a [Ex]) {gi ci : Nat} (hids : Li w gi 0 [1, 2]) (hgi : gi < w.heap.size) :
    Calls Try.prog 9 #[.pointer (some ⟨g, 0, none⟩), .slice (some ⟨gi, 0, none⟩) 2 ci, .slice a 1 c] w fun e w' => ∃ u, e = .returned (.tuple #[u, .int .i64 0]) ∧ AllR w' w.heap.size u [b9, b2] 0 ∧ Below w.heap.size w w' := by
  refine all_of (l := [Ex]) (ids := [1, 2]) (VF := fun _ p => if p = 1 then (F3.take 1, b9, 0) else (F3.take 2, b2, 0)) (I := fun k M' => M' = F3.take k) h he (fun x hx => by rw [List.mem_singleton.1 hx]; decide) (by decide) hids hgi (by decide) ?_ rfl ?_ rfl
  · intro k p M' wx wb mg mk hk hI hbl hg hmk hW
    subst hI
    rw [fvE] at hW ⊢
    have hb : Below w.heap.size w wx := ⟨hg.os, hg.tape, hg.output, hg.size, hbl⟩
    match k, hk with
    | 0, hk =>
      obtain rfl : (1 : Int) = p := Option.some.inj hk
      exact vk (gr_of h hb hmk) (j := 0) (id := 1) (Or.inl ⟨rfl, Or.inl rfl⟩) hW
    | 1, hk =>
      obtain rfl : (2 : Int) = p := Option.some.inj hk
      exact vk (gr_of h hb hmk) (j := 1) (id := 2) (Or.inr ⟨rfl, rfl⟩) hW
    | k + 2, hk => simp at hk
  · intro k p M' hk hI _
    match k, hk with
    | 0, hk =>
      obtain rfl : (1 : Int) = p := Option.some.inj hk
      rfl
    | 1, hk =>
      obtain rfl : (2 : Int) = p := Option.some.inj hk
      rfl
    | k + 2, hk => simp at hk
end
end Go.Proofs.Ytnflphhckgeneaa
