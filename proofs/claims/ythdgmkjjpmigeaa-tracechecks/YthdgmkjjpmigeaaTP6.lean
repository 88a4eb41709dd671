/- Plain: the document's resolution is the program's. -/
import Derived.Test.YthdgmkjjpmigeaaTD2
import Derived.Test.YthdgmkjjpmigeaaTP5
namespace Go.Proofs.Ythdgmkjjpmigeaa
open Go.RowKit
set_option linter.unusedSimpArgs false
set_option linter.unusedVariables false

theorem pivF_some {S : Int → Bool} : ∀ {c : List Int} {p : Int}, p ≠ 0 → pivF S c p = if (∀ l ∈ c, S (-l) = true → -l = p) then (p, true) else (0, false)
  | [], p, hp => by unfold pivF; simp [hp]
  | l :: c, p, hp => by
    unfold pivF
    by_cases h : S (-l) = false ∨ p = -l
    · rw [if_pos h, pivF_some hp]
      have : (∀ m ∈ c, S (-m) = true → -m = p) ↔ (∀ m ∈ l :: c, S (-m) = true → -m = p) := by
        constructor
        · intro h1 m hm hs
          rcases List.mem_cons.1 hm with e | e
          · subst e
            rcases h with h | h
            · rw [h] at hs; cases hs
            · exact h.symm
          · exact h1 m e hs
        · exact fun h1 m hm => h1 m (List.mem_cons_of_mem _ hm)
      simp only [this]
    · rw [if_neg h, if_pos hp, if_neg]
      intro h1
      have h2 : S (-l) = true := by
        cases e : S (-l) with
        | true => rfl
        | false => exact absurd (Or.inl e) h
      exact h (Or.inr (h1 l (by simp) h2).symm)
/-- There is just one literal to resolve by. -/
def One (cur c : List Int) (q : Int) : Prop := (q ∈ cur ∧ -q ∈ c) ∧ ∀ x, x ∈ cur → -x ∈ c → x = q
theorem mm_true {cur : List Int} {x : Int} : mm cur x = true ↔ x ∈ cur := by unfold mm; simp
theorem pivF_zero {cur : List Int} : ∀ {c : List Int}, (∀ l ∈ c, l ≠ 0) → ((∃ q, One cur c q ∧ pivF (mm cur) c 0 = (q, true)) ∨ ((¬ ∃ q, One cur c q) ∧ (pivF (mm cur) c 0).2 = false))
  | [], _ => Or.inr ⟨fun ⟨q, h, _⟩ => by simp at h, by simp [pivF]⟩
  | l :: c, hz => by
    have hl := hz l (by simp)
    unfold pivF
    by_cases h : mm cur (-l) = false
    · rw [if_pos (Or.inl h)]
      have hn : -l ∉ cur := fun e => by rw [mm_true.2 e] at h; cases h
      have hiff : ∀ q, One cur (l :: c) q ↔ One cur c q := fun q => by
        unfold One
        constructor
        · rintro ⟨⟨h1, h2⟩, h3⟩
          refine ⟨⟨h1, ?_⟩, fun x hx hxc => h3 x hx (List.mem_cons_of_mem _ hxc)⟩
          rcases List.mem_cons.1 h2 with e | e
          · exact absurd (by rw [← e, Int.neg_neg]; exact h1) hn
          · exact e
        · rintro ⟨⟨h1, h2⟩, h3⟩
          refine ⟨⟨h1, List.mem_cons_of_mem _ h2⟩, fun x hx hxc => ?_⟩
          rcases List.mem_cons.1 hxc with e | e
          · exact absurd (by rw [← e, Int.neg_neg]; exact hx) hn
          · exact h3 x hx e
      simp only [hiff]
      exact pivF_zero (fun m hm => hz m (List.mem_cons_of_mem _ hm))
    · have h2 : mm cur (-l) = true := by cases e : mm cur (-l) with
        | true => rfl
        | false => exact absurd e h
      rw [if_neg (by rintro (e | e); exact h e; omega), if_neg (by omega), pivF_some (by omega)]
      by_cases hall : ∀ m ∈ c, mm cur (-m) = true → -m = -l
      · left
        rw [if_pos hall]
        refine ⟨-l, ⟨⟨mm_true.1 h2, by simp⟩, fun x hx hxc => ?_⟩, rfl⟩
        rcases List.mem_cons.1 hxc with e | e
        · omega
        · have := hall (-x) e (by rw [Int.neg_neg]; exact mm_true.2 hx)
          omega
      · right
        rw [if_neg hall]
        refine ⟨fun ⟨q, ⟨h3, h4⟩, h5⟩ => hall fun m hm hs => ?_, rfl⟩
        have e1 := h5 (-l) (mm_true.1 h2) (by rw [Int.neg_neg]; simp)
        have e2 := h5 (-m) (mm_true.1 hs) (by rw [Int.neg_neg]; exact List.mem_cons_of_mem _ hm)
        omega
theorem clsh_mem {d c : List Int} {x : Int} : x ∈ clsh d c ↔ x ∈ c ∧ -x ∈ d := by unfold clsh; rw [List.mem_filter]; simp
theorem up_nodup {l : List Int} (h : l.Pairwise (· < ·)) : l.Nodup := h.imp (fun h => by omega)
theorem clsh_one {cur d : List Int} {q : Int} (hn : cur.Nodup) (h : One cur d q) : clsh d cur = [q] := by
  have hnd : (clsh d cur).Nodup := hn.filter _
  have hm : ∀ x, x ∈ clsh d cur ↔ x = q := fun x => by
    rw [clsh_mem]
    exact ⟨fun h1 => h.2 x h1.1 h1.2, fun e => by rw [e]; exact h.1⟩
  match hc : clsh d cur, hnd, hm with
  | [], _, hm => exact absurd ((hm q).2 rfl) (by simp)
  | [x], _, hm => rw [(hm x).1 (by simp)]
  | x :: y :: r, hnd, hm =>
    have e1 := (hm x).1 (by simp)
    have e2 := (hm y).1 (by simp)
    rw [e1, e2] at hnd
    simp at hnd
theorem resD_piv {cur c : List Int} (hu : cur.Pairwise (· < ·)) (hz : ∀ l ∈ c, okZ l = true) : resD cur (setF c) = if (pivF (mm cur) c 0).2 then some (joinL cur c (pivF (mm cur) c 0).1) else none := by
  have hone : ∀ q, One cur (setF c) q ↔ One cur c q := fun q => by unfold One; simp only [setF_mem]
  rcases pivF_zero (cur := cur) (c := c) (fun l hl => (okZ_b (hz l hl)).1) with ⟨q, h1, h2⟩ | ⟨h1, h2⟩
  · rw [h2]
    have e := clsh_one (up_nodup hu) ((hone q).2 h1)
    unfold resD
    rw [e]
    simp only [List.length_singleton, if_true]
    congr 1
    show setF _ = joinL cur c q
    unfold joinL
    refine setF_same fun x => ?_
    simp only [List.mem_append, List.mem_filter, setF_mem]
    rfl
  · rw [h2]
    unfold resD
    rw [if_neg]
    · rfl
    · intro h3
      obtain ⟨q, hq⟩ := List.length_eq_one_iff.1 h3
      refine h1 ⟨q, (hone q).1 ⟨clsh_mem.1 (by rw [hq]; simp), fun x hx hxc => ?_⟩⟩
      have : x ∈ clsh (setF c) cur := clsh_mem.2 ⟨hx, hxc⟩
      rw [hq] at this
      simpa using this
theorem join_nil {c : List Int} (hz : ∀ l ∈ c, okZ l = true) : joinL [] c 0 = setF c := by
  unfold joinL
  refine setF_same fun x => ?_
  simp only [List.filter_nil, List.nil_append, List.mem_filter]
  constructor
  · exact fun h => h.1
  · exact fun h => ⟨h, decide_eq_true (by have := okZ_b (hz x h); omega)⟩
theorem setF_id {d : List Int} (h : d.Pairwise (· < ·)) : setF d = d := up_ext (setF_up d) h fun x => setF_mem
theorem goF_first {G D : List (List Int)} {p : Int} {F c : List Int} (h : clF G D p = some c) (hz : ∀ l ∈ c, okZ l = true) : goF G D [] true (p :: F) = goF G D (setF c) false F := by
  rw [goF, h]
  simp only [if_true]
  rw [join_nil hz]
theorem goF_next {G D : List (List Int)} {p : Int} {F c cur : List Int} (h : clF G D p = some c) (hz : ∀ l ∈ c, okZ l = true) (hu : cur.Pairwise (· < ·)) : goF G D cur false (p :: F) = match resD cur (setF c) with
    | none => none
    | some r => goF G D r false F := by
  rw [goF, h, resD_piv hu hz]
  simp only [Bool.false_eq_true, if_false]
  split <;> rfl
theorem goF_none {G D : List (List Int)} {p : Int} {F cur : List Int} {b : Bool} (h : clF G D p = none) : goF G D cur b (p :: F) = none := by rw [goF, h]
theorem resD_dc {U cur d r : List Int} (h : Dc U cur) (hd : Dc U d) (e : resD cur d = some r) : Dc U r := by
  unfold resD at e
  split at e
  · injection e with e
    subst e
    refine ⟨fun x hx => ?_, fun x hx => ?_, setF_up _⟩
    all_goals
      rw [setF_mem, List.mem_append, List.mem_filter, List.mem_filter] at hx
      rcases hx with h1 | h1
    · exact h.ok x h1.1
    · exact hd.ok x h1.1
    · exact h.sub x h1.1
    · exact hd.sub x h1.1
  · cases e
theorem set_dc {U c : List Int} (hz : ∀ l ∈ c, okZ l = true) (hs : ∀ x ∈ c, x ∈ U) : Dc U (setF c) := ⟨fun x hx => hz x (setF_mem.1 hx), fun x hx => hs x (setF_mem.1 hx), setF_up _⟩
end Go.Proofs.Ythdgmkjjpmigeaa
