/- Pure facts (clauses): the chapter's example; inputs are few; Root refuses. -/
import Derived.Test.YtajpnlmglkifcaaCNQ
namespace Go.Proofs.Ytajpnlmglkifcaa
open Go.RowKit
set_option linter.unusedSimpArgs false
set_option linter.unusedVariables false

theorem stepR_ins {st : Tp} {s s' : Rz} (h : stepR st s s') (h5 : (insL s.ks).length ≤ 5) : (insL s'.ks).length ≤ 5 := by
  unfold stepR at h
  split at h
  · rw [h]
    split
    · next hlt =>
      show (insL (inpF 60 s.ks).2.2).length ≤ 5
      unfold inpF
      split
      · exact h5
      · rw [insL_snoc, List.length_append]
        split <;> simp <;> omega
    · exact h5
  · split at h
    · rw [h]
      show (insL (andF 60 s.ks (pa st s) (pb st s)).2.2).length ≤ 5
      rw [and_ins]; exact h5
    · split at h
      · rw [h]
        show (insL (xorF 60 s.ks (pa st s) (pb st s)).2.2).length ≤ 5
        unfold xorF
        rw [mux_ins]; exact h5
      · split at h
        · obtain ⟨L, -, h⟩ := h
          rw [h]; exact h5
        · split at h <;> (rw [h]; exact h5)
theorem playR_ins : ∀ {l : List Tp} {s s' : Rz}, playR l s s' → (insL s.ks).length ≤ 5 → (insL s'.ks).length ≤ 5
  | [], s, s', h, h5 => by rw [show s' = s from h]; exact h5
  | st :: r, s, s', ⟨s1, h1, h2⟩, h5 => playR_ins h2 (stepR_ins h1 h5)
def k4L : List Tp := [⟨0, 0, 0⟩, ⟨0, 0, 0⟩, ⟨1, 2, 4⟩, ⟨5, 6, 0⟩]
def K4 : List Kd := [(0, 0), (0, 0), (0, 0), (2, 4)]
theorem kids4 {x y : Nat} (h : x ∈ kidsL K4 y) : (y = 6 ∧ (x = 2 ∨ x = 4)) ∨ (y = 7 ∧ (x = 3 ∨ x = 5)) := by
  by_cases hy : y < 8
  · have : ∀ y < 8, ∀ x ∈ kidsL K4 y, (y = 6 ∧ (x = 2 ∨ x = 4)) ∨ (y = 7 ∧ (x = 3 ∨ x = 5)) := by decide
    exact this y hy x h
  · unfold kidsL at h
    rw [List.getElem?_eq_none (show K4.length ≤ y / 2 by show 4 ≤ y / 2; omega)] at h
    cases h
theorem uo4 {L : List Nat} (h : UO K4 [] 6 L) : L = [2, 4, 6] := by
  have h6 : 6 ∈ L := h.st.resolve_left (fun e => nomatch e)
  have h2 : 2 ∈ L := (h.cl 6 h6 2 (by decide)).resolve_left (fun e => nomatch e)
  have h4 : 4 ∈ L := (h.cl 6 h6 4 (by decide)).resolve_left (fun e => nomatch e)
  have h7 : 7 ∉ L := fun e => by
    rcases h.fr 7 e with e | ⟨y, -, hy⟩
    · cases e
    · rcases kids4 hy with ⟨-, e⟩ | ⟨-, e⟩ <;> omega
  have hin : ∀ x ∈ L, x = 2 ∨ x = 4 ∨ x = 6 := fun x hx => by
    rcases h.fr x hx with e | ⟨y, hy, hk⟩
    · omega
    · rcases kids4 hk with ⟨-, e⟩ | ⟨rfl, -⟩
      · omega
      · exact absurd hy h7
  have hup := h.up
  clear h h7
  rcases L with _ | ⟨a, _ | ⟨b, _ | ⟨c, _ | ⟨d, r⟩⟩⟩⟩
  · cases h6
  · simp only [List.mem_cons, List.not_mem_nil, or_false] at h2 h4; omega
  · simp only [List.mem_cons, List.not_mem_nil, or_false] at h2 h4 h6; omega
  · simp only [List.pairwise_cons, List.mem_cons, List.not_mem_nil, or_false, forall_eq_or_imp, forall_eq] at hup hin
    obtain ⟨rfl, rfl, rfl⟩ : a = 2 ∧ b = 4 ∧ c = 6 := by omega
    rfl
  · simp only [List.pairwise_cons, List.mem_cons, forall_eq_or_imp] at hup hin
    omega
theorem cmp3 : Lib.compact ([1, 2, 3] : List Int) = [1, 2, 3] := by decide
def V4 : Int → Option Int := asg (fun _ => none) 0 [1, 2, 3]
theorem play4 {s : Rz} (h : playR k4L (stS 1) s) : s.ks = K4 ∧ s.vars = 3 ∧ s.V = V4 ∧ s.C = [[-3, 1], [-3, 2]] ∧ s.Rs = [3] := by
  obtain ⟨s1, h1, s2, h2, s3, h3, s4, h4, h5⟩ := h
  obtain rfl : s = s4 := h5
  have e1 : s1 = ⟨[(0, 0), (0, 0)], 0, fun _ => none, [], [], [], []⟩ := h1
  subst e1
  have e2 : s2 = ⟨[(0, 0), (0, 0), (0, 0)], 0, fun _ => none, [], [], [], []⟩ := h2
  subst e2
  have e3 : s3 = ⟨K4, 0, fun _ => none, [], [], [], []⟩ := h3
  subst e3
  obtain ⟨L, hU, e4⟩ : ∃ L, UO K4 [] 6 L ∧ s = rtS ⟨K4, 0, fun _ => none, [], [], [], []⟩ L 6 := h4
  obtain rfl := uo4 hU
  have hn : nats (nmL (fun _ => none) [2, 4, 6]) = [1, 2, 3] := by decide
  unfold rtS at e4
  rw [hn, cmp3] at e4
  subst e4
  exact ⟨rfl, rfl, rfl, by decide, by decide⟩
set_option maxRecDepth 20000 in
set_option maxHeartbeats 800000 in
theorem root_no {w : World} {F : Nat → Prop} {e g mo mv mp l : Nat} {ks : List Kd} {vars : Int} {V P : Int → Option Int}
    (hE : En w e g vars mv mp V P) (hG : Gr w F g mo ks) (hll : ks.length ≤ l / 2) (hl2 : l < 1000000) :
    Calls Try.prog 23 #[.pointer (some ⟨e, 0, none⟩), .int .i64 (l : Int)] w fun ev w' => ev = .returned (.tuple #[.int .i64 0, .slice none 0 0, .int .i64 100]) ∧ Below w.heap.size w w' := by
  have HND : Hid (∀ wx, Calls Try.prog 38 #[.int .i64 (l : Int)] wx fun e w' => e = .returned (.int .i64 ((l / 2 : Nat) : Int)) ∧ w' = wx) := fun wx => cnode_any l wx
  have HNO : Hid (∀ wx, wx.heap = w.heap → Calls Try.prog 16 #[.pointer (some ⟨g, 0, none⟩)] wx fun e w' => e = .returned (.int .i64 ((ks.length : Int) - 1)) ∧ w' = wx) := fun wx hw => nodes_any (hG.kept (fun k _ _ => by rw [hw]))
  have hpos := hG.inv.pos
  have c0 : w.cell? ⟨e, 0, none⟩ = some (.pointer (some ⟨g, 0, none⟩)) := cell_of hE.hd 0 rfl
  obtain ⟨n, hn⟩ : ∃ n, n = l / 2 := ⟨_, rfl⟩
  obtain ⟨N, hN⟩ : ∃ n, n = ks.length := ⟨_, rfl⟩
  rw [← hn] at HND
  rw [← hN] at HNO hpos
  have hnN : (N : Int) - 1 < (n : Int) := by omega
  clear hE hG hn hN hll
  go_enter Try.func23, Try.ntmps23
  go_wp2_with fail
  go_quiet ((first | (go_at_call 38; refine Calls.quiet_of_same (HND.out _)) | (go_at_call 16; refine Calls.quiet_of_same (HNO.out _ (heap_drewN _ _)))))
  go_wp2_with fail
  refine bodyPost_ret (v := .tuple #[.int .i64 0, .slice none 0 0, .int .i64 100]) (by simp [results, Try.results23, go_sem]) rfl ?_
  exact ⟨rfl, below_drewN (Below.refl _ _) _⟩
end Go.Proofs.Ytajpnlmglkifcaa
