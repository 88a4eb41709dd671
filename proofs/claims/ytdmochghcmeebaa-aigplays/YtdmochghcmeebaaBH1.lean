/- Contracts (the document's and-inverter graphs): what a graph holds; New, is, put, Input. -/
import Derived.Test.YtdmochghcmeebaaAG8
namespace Go.Proofs.Ytdmochghcmeebaa
open Go.RowKit
set_option linter.unusedSimpArgs false
set_option linter.unusedVariables false

def rcs (k : Kd) : List Value := [.int .i64 (k.1 : Int), .int .i64 (k.2 : Int), .bool (decide (k = (0, 0)))]
def rval (k : Kd) : Value := .agg #[.int .i64 (k.1 : Int), .int .i64 (k.2 : Int), .bool (decide (k = (0, 0)))]
theorem rcs_len (k : Kd) : (rcs k).length = 3 := rfl
theorem rss_at {ks : List Kd} {i : Nat} {k : Kd} (h : ks[i]? = some k) (j : Nat) (hj : j < 3) : (ks.flatMap rcs)[i * 3 + j]? = (rcs k)[j]? := by
  induction ks generalizing i with
  | nil => simp at h
  | cons m l ih =>
    rw [List.flatMap_cons]
    cases i with
    | zero =>
      obtain rfl : m = k := by simpa using h
      rw [List.getElem?_append_left (by rw [rcs_len]; omega), Nat.zero_mul, Nat.zero_add]
    | succ i =>
      rw [List.getElem?_append_right (by rw [rcs_len]; omega), rcs_len, show (i + 1) * 3 + j - 3 = i * 3 + j by omega]
      exact ih (by simpa using h)
theorem one_rcs (k : Kd) : ∀ u ∈ rcs k, u.oneCell' = true := by
  intro u hu
  simp only [rcs, List.mem_cons, List.not_mem_nil, or_false] at hu
  rcases hu with rfl | rfl | rfl <;> rfl
theorem infoRn : (Try.prog.info? 69).map (fun i => (i.zero, i.size, i.bytes)) = some (some (.agg #[.int .i64 0, .int .i64 0, .bool false]), 3, 24) := by kernel_rfl
theorem underRn : Try.prog.underlying 33 = some (.slice 69) := by kernel_rfl

/-- The document's graph at block g (its nodes' slice: v): the nodes rs, from number 1 on. -/
structure Rx (w : World) (g : Nat) (v : Value) (mo : Nat) (rs : List Kd) : Prop where
  hd : w.heap[g]? = some (.cells #[v, .int .i64 (mo : Int)] 35)
  row : w.ownsRow 0 69 3 v rs.length (rs.flatMap rcs)
  most : mo ≤ 32768
  room : rs.length ≤ mo
  inv : Inv ((0, 0) :: rs)
def Rg (w : World) (F : Nat → Prop) (g mo : Nat) (rs : List Kd) : Prop := ∃ v, Rx w g v mo rs ∧ F g ∧ ∀ b, v.ownBlock = some b → F b
theorem Rx.lt {w : World} {g mo : Nat} {v : Value} {rs : List Kd} (h : Rx w g v mo rs) : g < w.heap.size := (Array.getElem?_eq_some_iff.1 h.hd).1
theorem Rx.c0 {w : World} {g mo : Nat} {v : Value} {rs : List Kd} (h : Rx w g v mo rs) : w.cell? ⟨g, 0, none⟩ = some v := cell_of h.hd 0 rfl
theorem Rx.c1 {w : World} {g mo : Nat} {v : Value} {rs : List Kd} (h : Rx w g v mo rs) : w.cell? ⟨g, 1, none⟩ = some (.int .i64 (mo : Int)) := cell_of h.hd 1 rfl
theorem Rx.kept {w w' : World} {g mo : Nat} {v : Value} {rs : List Kd} (h : Rx w g v mo rs) (hk : ∀ k, k < w.heap.size → w'.heap[k]? = w.heap[k]?) : Rx w' g v mo rs := ⟨(hk g h.lt).trans h.hd, row_kept h.row hk, h.most, h.room, h.inv⟩
theorem Rx.below {w w' : World} {g mo : Nat} {v : Value} {rs : List Kd} (h : Rx w g v mo rs) (hb : Below w.heap.size w w') : Rx w' g v mo rs := h.kept hb.block
theorem Rg.kept {w w' : World} {F : Nat → Prop} {g mo : Nat} {rs : List Kd} (h : Rg w F g mo rs) (hk : ∀ k, k < w.heap.size → F k → w'.heap[k]? = w.heap[k]?) : Rg w' F g mo rs := by
  obtain ⟨v, hx, f1, f2⟩ := h
  exact ⟨v, ⟨(hk g hx.lt f1).trans hx.hd, row_own hx.row (fun k e => hk k (hx.row.lt k e).2 (f2 k e)), hx.most, hx.room, hx.inv⟩, f1, f2⟩
theorem Rg.below {w w' : World} {F : Nat → Prop} {g mo : Nat} {rs : List Kd} (h : Rg w F g mo rs) (hb : Below w.heap.size w w') : Rg w' F g mo rs := h.kept (fun k hk _ => hb.block k hk)
theorem Rg.len {w : World} {F : Nat → Prop} {g mo : Nat} {rs : List Kd} (h : Rg w F g mo rs) : rs.length ≤ mo ∧ mo ≤ 32768 := by
  obtain ⟨v, hx, _⟩ := h
  exact ⟨hx.room, hx.most⟩
theorem Rg.inv {w : World} {F : Nat → Prop} {g mo : Nat} {rs : List Kd} (h : Rg w F g mo rs) : Inv ((0, 0) :: rs) := by
  obtain ⟨v, hx, _⟩ := h
  exact hx.inv
theorem Rx.sl {w : World} {g mo : Nat} {v : Value} {rs : List Kd} (h : Rx w g v mo rs) : ∃ a c, v = .slice a rs.length c ∧ (rs = [] ∨ ∃ r, a = some ⟨r, 0, none⟩ ∧ r < w.heap.size ∧ ∀ (i : Nat) (k : Kd), rs[i]? = some k → w.cell? ⟨r, i * 3, none⟩ = some (.int .i64 (k.1 : Int)) ∧ w.cell? ⟨r, i * 3 + 1, none⟩ = some (.int .i64 (k.2 : Int)) ∧ w.cell? ⟨r, i * 3 + 2, none⟩ = some (.bool (decide (k = (0, 0))))) := by
  rcases h.row.2 with ⟨hv, hn⟩ | ⟨r, cap, cur, hv, hb, hg, _, _, hs, ht⟩
  · have := List.eq_nil_of_length_eq_zero hn
    subst this
    exact ⟨none, 0, hv, Or.inl rfl⟩
  · refine ⟨_, cap, hv, Or.inr ⟨r, rfl, (Array.getElem?_eq_some_iff.1 hg).1, fun i k hi => ?_⟩⟩
    have hlt : i < rs.length := (List.getElem?_eq_some_iff.1 hi).1
    have key : ∀ j u, j < 3 → (rcs k)[j]? = some u → w.cell? ⟨r, i * 3 + j, none⟩ = some u := fun j u hj hu => by
      have e : (rs.flatMap rcs)[i * 3 + j]? = some u := by rw [rss_at hi j hj]; exact hu
      rw [← ht, List.getElem?_take_of_lt (by omega)] at e
      exact cell_of hg _ (by simpa using e)
    exact ⟨key 0 _ (by omega) rfl, key 1 _ (by omega) rfl, key 2 _ (by omega) rfl⟩
theorem Rx.sep {w : World} {g mo : Nat} {v : Value} {rs : List Kd} (h : Rx w g v mo rs) : v.ownBlock ≠ some g := by
  intro e
  rcases h.row.2 with ⟨rfl, _⟩ | ⟨r, cap, cur, rfl, _, hr, _⟩
  · cases e
  · cases e
    rw [h.hd] at hr
    cases hr
/-- What a call of the document's graph leaves (the nodes with node 0 ahead). -/
def RDid (w : World) (F : Nat → Prop) (g mo : Nat) (r : Ans) (e : Ending) (w' : World) : Prop :=
  e = .returned (.tuple #[.int .i64 r.1, .int .i64 r.2.1]) ∧ ∃ F' rs, r.2.2 = (0, 0) :: rs ∧ Rg w' F' g mo rs ∧ Ch w w' F F'

set_option maxHeartbeats 800000 in
theorem rnew_any (most : Int) (w : World) :
    Calls Try.prog 9 #[.int .i64 most] w fun e w' => e = .returned (.pointer (some ⟨w.heap.size, 0, none⟩)) ∧ Below w.heap.size w w' ∧ Rg w' (fun k => w.heap.size ≤ k ∧ k < w'.heap.size) w.heap.size (roomOf most) [] := by
  have key : ∀ x : Int, x = (roomOf most : Int) → ∀ w' : World, w' = w.alloc (.cells #[.slice none 0 0, .int .i64 x] 35) → Rg w' (fun k => w.heap.size ≤ k ∧ k < w'.heap.size) w.heap.size (roomOf most) [] := by
    rintro x rfl w' rfl
    refine ⟨.slice none 0 0, ⟨heap_alloc_new w _, World.ownsRow_nil _ _ _ _, by unfold roomOf; omega, by simp, Inv.one⟩, ⟨Nat.le_refl _, by simp⟩, fun b e => by cases e⟩
  have HK : Hid _ := key
  clear key
  by_cases h1 : most < 1
  · have e : Hid ((1 : Int) = (roomOf most : Int)) := by unfold Hid roomOf; omega
    go_enter Try.func9, Try.ntmps9
    go_wp2_with fail
    go_ret
    exact ⟨rfl, by go_grown, HK.out _ e.out _ rfl⟩
  · by_cases h2 : most ≤ 32768
    · have e : Hid (most = (roomOf most : Int)) := by unfold Hid roomOf; omega
      have h3 : ¬ (32768 : Int) < most := by omega
      go_enter Try.func9, Try.ntmps9
      go_wp2_with fail
      go_ret
      exact ⟨rfl, by go_grown, HK.out _ e.out _ rfl⟩
    · have e : Hid ((32768 : Int) = (roomOf most : Int)) := by unfold Hid roomOf; omega
      go_enter Try.func9, Try.ntmps9
      go_wp2_with fail
      go_ret
      exact ⟨rfl, by go_grown, HK.out _ e.out _ rfl⟩

set_option maxHeartbeats 800000 in
theorem is_any {w : World} {F : Nat → Prop} {g mo : Nat} {rs : List Kd} (h : Rg w F g mo rs) {l : Int} (hl : w64 l) :
    Calls Try.prog 38 #[.pointer (some ⟨g, 0, none⟩), .int .i64 l] w fun e w' => e = .returned (.bool (litB (rs.length + 1) l)) ∧ w' = w := by
  obtain ⟨v, hx, -⟩ := h
  have c0 := hx.c0
  have hr := hx.room
  have hm := hx.most
  obtain ⟨a, c, rfl, -⟩ := hx.sl
  obtain ⟨N, eN⟩ : ∃ N, N = rs.length := ⟨_, rfl⟩
  rw [← eN] at c0 hr ⊢
  clear hx eN
  by_cases h0 : 0 ≤ l
  · obtain ⟨L, rfl⟩ : ∃ L : Nat, l = (L : Int) := ⟨l.toNat, by omega⟩
    have HE : Hid (litB (N + 1) (L : Int) = decide (wrap64 ((L : Int) / 2) ≤ (N : Int))) := by
      unfold Hid
      have hw : wrap64 ((L : Int) / 2) = (L : Int) / 2 := by
        have := hl.2
        unfold wrap64; omega
      rw [hw, Bool.eq_iff_iff, litB_iff, decide_eq_true_eq]
      omega
    obtain ⟨R, hR⟩ : ∃ R, R = litB (N + 1) (L : Int) := ⟨_, rfl⟩
    rw [← hR] at HE ⊢
    clear hR hl
    go_enter Try.func38, Try.ntmps38
    go_wp2_with fail
    go_ret
    exact ⟨by rw [HE.out]; rfl, rfl⟩
  · have e : litB (N + 1) l = false := by
      rw [Bool.eq_false_iff]
      intro q
      have := litB_iff.1 q
      omega
    rw [e]
    clear e
    have h0' : l < 0 := by omega
    have hd0 : decide (0 ≤ l) = false := decide_eq_false h0
    clear h0
    go_enter Try.func38, Try.ntmps38
    go_wp2_with fail
    go_ret
    exact ⟨rfl, rfl⟩
/-- How far the first statement of adding has come. -/
structure RSt (w : World) (gB : Nat) (v : Value) (mo : Nat) (ks : List Kd) (k0 : Kd) (g : Nat → Nat) (L : Nat → Bool) (x : World) : Prop where
  d7 : L 7 = true → L 4 = true ∧ L 6 = true
  d10 : L 10 = true → L 7 = true
  bx : x.heap[w.heap.size]? = some (.cells (rcs k0).toArray 69)
  sz : w.heap.size + 1 ≤ x.heap.size
  os : x.os = w.os
  tape : x.tape = w.tape
  output : x.output = w.output
  kp : ∀ k, k < w.heap.size → (L 7 = true → some k ≠ v.ownBlock) → (L 10 = true → k ≠ gB) → x.heap[k]? = w.heap[k]?
  s6 : L 6 = true → L 7 = false → x.heap[g 6]? = some (.cells (rcs k0).toArray 69)
  r7 : L 7 = true → x.ownsRow 0 69 3 (sl (ks.length + 1) (g 7)) (ks.length + 1) ((ks ++ [k0]).flatMap rcs) ∧ ((sl (ks.length + 1) (g 7)).ownBlock = v.ownBlock ∨ ∃ b, (sl (ks.length + 1) (g 7)).ownBlock = some b ∧ w.heap.size + 1 ≤ b)
  h10 : L 10 = true → x.heap[gB]? = some (.cells #[sl (ks.length + 1) (g 7), .int .i64 (mo : Int)] 35)

section
variable {w : World} {gB mo : Nat} {v : Value} {ks : List Kd} {k0 : Kd} {g : Nat → Nat} {L : Nat → Bool} {x y : World} {i : Nat}
theorem RSt.go (h : RSt w gB v mo ks k0 g L x) (hi : (i != 6 && i != 7 && i != 10) = true) : RSt w gB v mo ks k0 g (updB L i) x := by
  simp only [Bool.and_eq_true, bne_iff_ne, ne_eq] at hi
  have u6 := updB_ne (L := L) (i := i) (k := 6) (by omega)
  have u7 := updB_ne (L := L) (i := i) (k := 7) (by omega)
  have u10 := updB_ne (L := L) (i := i) (k := 10) (by omega)
  refine ⟨?_, by rw [u7, u10]; exact h.d10, h.bx, h.sz, h.os, h.tape, h.output, by rw [u7, u10]; exact h.kp, by rw [u6, u7]; exact h.s6, by rw [u7]; exact h.r7, by rw [u10]; exact h.h10⟩
  rw [u6, u7]
  intro e
  refine ⟨?_, (h.d7 e).2⟩
  by_cases h4 : i = 4
  · subst h4; exact updB_eq
  · rw [updB_ne (L := L) (i := i) (k := 4) (by omega)]; exact (h.d7 e).1
theorem RSt.no10 (h : RSt w gB v mo ks k0 g L x) (h7 : L 7 = false) : L 10 = false := by
  cases e : L 10
  · rfl
  · rw [h.d10 e] at h7; cases h7
theorem RSt.built (h : RSt w gB v mo ks k0 g L x) (h6 : L 6 = false) : RSt w gB v mo ks k0 (updG g 6 x.heap.size) (updB L 6) (x.alloc (.cells (rcs k0).toArray 69)) := by
  have h7 : L 7 = false := by
    cases e : L 7
    · rfl
    · rw [(h.d7 e).2] at h6; cases h6
  have h10 := h.no10 h7
  have u4 := updB_ne (L := L) (i := 6) (k := 4) (by decide)
  have u7 := updB_ne (L := L) (i := 6) (k := 7) (by decide)
  have u10 := updB_ne (L := L) (i := 6) (k := 10) (by decide)
  have hs := h.sz
  refine ⟨?_, ?_, (heap_alloc_old _ _ (by omega)).trans h.bx, by simp; omega, h.os, h.tape, h.output, ?_, ?_, ?_, ?_⟩
  · rw [u7, h7]; intro e; cases e
  · rw [u10, h10]; intro e; cases e
  · rw [u7, u10]; intro k hk a b; exact (heap_alloc_old _ _ (by omega)).trans (h.kp k hk a b)
  · intro _ _; rw [updG_eq]; exact heap_alloc_new _ _
  · rw [u7, h7]; intro e; cases e
  · rw [u10, h10]; intro e; cases e
theorem RSt.app {p : Nat} (h : RSt w gB v mo ks k0 g L x) (hL4 : L 4 = true) (hL6 : L 6 = true) (hL7 : L 7 = false) (hbv : ∀ k, v.ownBlock = some k → k < w.heap.size)
    (hg : x.grownBy y v.ownBlock) (ho : y.ownsRow 0 69 3 (sl (ks.length + 1) p) (ks.length + 1) ((ks ++ [k0]).flatMap rcs)) (hat : (sl (ks.length + 1) p).ownBlock = v.ownBlock ∨ (sl (ks.length + 1) p).ownBlock = some x.heap.size) :
    RSt w gB v mo ks k0 (updG g 7 p) (updB L 7) y := by
  have h10 := h.no10 hL7
  have u4 := updB_ne (L := L) (i := 7) (k := 4) (by decide)
  have u6 := updB_ne (L := L) (i := 7) (k := 6) (by decide)
  have u10 := updB_ne (L := L) (i := 7) (k := 10) (by decide)
  have hs := h.sz
  refine ⟨?_, ?_, ?_, by have := hg.size; omega, hg.os.trans h.os, hg.tape.trans h.tape, hg.output.trans h.output, ?_, ?_, ?_, ?_⟩
  · intro _; rw [u4, u6]; exact ⟨hL4, hL6⟩
  · rw [u10, h10]; intro e; cases e
  · exact (hg.block _ (by omega) (fun e => by have := hbv _ e.symm; omega)).trans h.bx
  · rw [u10]; intro k hk a b
    exact (hg.block k (by omega) (a updB_eq)).trans (h.kp k hk (fun e => by rw [hL7] at e; cases e) b)
  · intro _ e; rw [updB_eq] at e; cases e
  · intro _; rw [updG_eq]
    refine ⟨ho, ?_⟩
    rcases hat with e | e
    · exact Or.inl e
    · exact Or.inr ⟨_, e, hs⟩
  · rw [u10, h10]; intro e; cases e
theorem RSt.store (h : RSt w gB v mo ks k0 g L x) (hL7 : L 7 = true) (hL10 : L 10 = false) (hgB : gB < w.heap.size) (hne : v.ownBlock ≠ some gB) (hhd : w.heap[gB]? = some (.cells #[v, .int .i64 (mo : Int)] 35)) :
    RSt w gB v mo ks k0 g (updB L 10) (x.setCell ⟨gB, 0, none⟩ (sl (ks.length + 1) (g 7))) := by
  have u4 := updB_ne (L := L) (i := 10) (k := 4) (by decide)
  have u6 := updB_ne (L := L) (i := 10) (k := 6) (by decide)
  have u7 := updB_ne (L := L) (i := 10) (k := 7) (by decide)
  have hx : x.heap[gB]? = w.heap[gB]? := h.kp gB hgB (fun _ e => hne e.symm) (fun e => by rw [hL10] at e; cases e)
  have hr := h.r7 hL7
  have hne2 : (sl (ks.length + 1) (g 7)).ownBlock ≠ some gB := by
    rcases hr.2 with e | ⟨b, e, hb⟩
    · rw [e]; exact hne
    · rw [e]; intro q; cases q; omega
  refine ⟨by rw [u7, u4, u6]; exact h.d7, fun _ => by rw [u7]; exact hL7, (heap_setCell_other _ _ _ _ (by show w.heap.size ≠ gB; omega)).trans h.bx, by rw [World.size_setCell]; exact h.sz, h.os, h.tape, h.output, ?_, ?_, ?_, ?_⟩
  · rw [u7]; intro k hk a b
    have hk' := b updB_eq
    exact (heap_setCell_other _ _ _ _ (by show k ≠ gB; exact hk')).trans (h.kp k hk a (fun e => by rw [hL10] at e; cases e))
  · rw [u7, hL7]; intro _ e; cases e
  · intro _; exact ⟨row_far hr.1 hne2, hr.2⟩
  · intro _
    rw [heap_setCell_same _ _ _ _ _ _ (hx.trans hhd)]; rfl
end



/-- What putting leaves. -/
structure PutR (w w' : World) (g : Nat) (v v' : Value) (mo : Nat) (ks : List Kd) : Prop where
  hd : w'.heap[g]? = some (.cells #[v', .int .i64 (mo : Int)] 35)
  row : w'.ownsRow 0 69 3 v' ks.length (ks.flatMap rcs)
  own : v'.ownBlock = v.ownBlock ∨ ∃ b, v'.ownBlock = some b ∧ w.heap.size ≤ b
  os : w'.os = w.os
  tape : w'.tape = w.tape
  output : w'.output = w.output
  size : w.heap.size ≤ w'.heap.size
  block : ∀ k, k < w.heap.size → k ≠ g → some k ≠ v.ownBlock → w'.heap[k]? = w.heap[k]?

set_option maxHeartbeats 1600000 in
theorem put_full {w : World} {F : Nat → Prop} {g mo : Nat} {ks : List Kd} (h : Rg w F g mo ks) {k0 : Kd} (hroom : ks.length = mo) :
    Calls Try.prog 45 #[.pointer (some ⟨g, 0, none⟩), rval k0] w fun e w' => e = .returned (.tuple #[.int .i64 0, .int .i64 81]) ∧ Below w.heap.size w w' := by
  obtain ⟨v, hx, -⟩ := h
  have c0 := hx.c0
  have c1 := hx.c1
  have hg := hx.lt
  obtain ⟨a, c, rfl, -⟩ := hx.sl
  rw [hroom] at c0
  have hz : (mo : Int) ≤ (mo : Int) := by omega
  clear hx hroom
  obtain ⟨k1, k2⟩ := k0
  unfold rval
  dsimp only
  obtain ⟨z, hzz⟩ : ∃ z, z = decide ((k1, k2) = ((0, 0) : Kd)) := ⟨_, rfl⟩
  rw [← hzz]
  clear hzz
  go_enter Try.func45, Try.ntmps45
  go_wp2_with fail
  go_quiet (fail)
  go_wp2_with fail
  refine bodyPost_ret (v := .tuple #[.int .i64 0, .int .i64 81]) (by simp [results, Try.results45, go_sem]) rfl ?_
  exact ⟨rfl, below_drewN (by go_grown) _⟩

set_option maxRecDepth 20000 in
set_option maxHeartbeats 6400000 in
theorem put_any {w : World} {g0 mo : Nat} {v : Value} {ks : List Kd} (h : Rx w g0 v mo ks) {k0 : Kd} (hroom : ks.length < mo) :
    Calls Try.prog 45 #[.pointer (some ⟨g0, 0, none⟩), rval k0] w fun e w' => e = .returned (.tuple #[.int .i64 (2 * ((ks.length : Int) + 1)), .int .i64 0]) ∧ ∃ v', PutR w w' g0 v v' mo (ks ++ [k0]) := by
  have hg := h.lt
  have c0 := h.c0
  have c1 := h.c1
  have hmost := h.most
  have HBV : Hid (∀ k, v.ownBlock = some k → k < w.heap.size) := fun k hk => (h.row.lt k hk).2
  have HNE : Hid (v.ownBlock ≠ some g0) := h.sep
  have HW : Hid (w.ownsRow 0 69 3 v ks.length (ks.flatMap rcs)) := h.row
  have HHD : Hid _ := h.hd
  obtain ⟨ti, ht0, hz0, hz1, hz2⟩ := info_any infoRn
  have HI0 : Hid _ := (⟨ht0, hz0, hz1, hz2⟩ : Try.prog.info? 69 = some ti ∧ ti.zero = _ ∧ ti.size = 3 ∧ ti.bytes = 24)
  obtain ⟨va, vc, hv, -⟩ := h.sl
  have hbd : decide ((mo : Int) ≤ (ks.length : Int)) = false := decide_eq_false (by omega)
  have hbd2 : (ks.length : Int) < (mo : Int) := by omega
  clear h ht0 hz0 hz1 hz2
  unfold rval
  rw [hv] at c0
  have HVV : Hid _ := hv
  clear hv
  go_enter Try.func45, Try.ntmps45
  go_wp2_with fail
  go_quiet (fail)
  go_wp2_with fail
  clear hbd c0 c1
  refine wp_named fun a0 ha0 => ?_
  have o0 := old_at ha0 (t := 0) rfl
  have o3 := old_at ha0 (t := 3) rfl
  refine wp_region_lin (S := RSt w g0 v mo ks k0) [6, 7] (fun _ => 0) (by kernel_rfl) (by kernel_rfl) (by rw [← ha0]; kernel_rfl) ?_ ?_
  · exact ⟨(fun e => by cases e), (fun e => by cases e), heap_alloc_new w _, by show w.heap.size + 1 ≤ (w.alloc _).heap.size; simp, rfl, rfl, rfl, (fun k hk _ _ => heap_alloc_old w _ hk), (fun e => by cases e), (fun e => by cases e), (fun e => by cases e)⟩
  refine' LinAll.cons _ ?_ ?_ ?_
  rotate_left 1
  · intro g L a x hLi haft hS hK; have t0 := (hK.old 0 (by kernel_rfl)).trans o0; refine go_in (wanted_all rfl) ?_; intro K hk; clear haft hK hLi; go_simp; exact hk.out g x (fun _ _ => rfl) (hS.go rfl)
  · intro i hi; exact Or.inl (fun _ _ _ => rfl)
  refine' LinAll.cons _ ?_ ?_ ?_
  rotate_left 1
  · intro g L a x hLi haft hS hK; have t0 := (hK.old 0 (by kernel_rfl)).trans o0; refine go_in (wanted_all rfl) ?_; intro K hk; clear haft hK hLi; go_simp; exact hk.out g x (fun _ _ => rfl) (hS.go rfl)
  · intro i hi; exact Or.inl (fun _ _ _ => rfl)
  refine' LinAll.cons _ ?_ ?_ ?_
  rotate_left 1
  · intro g L a x hLi haft hS hK; have t17 := hK.new 1 0 _ 17 _ rfl rfl rfl (by kernel_rfl) (waits haft 1 (by kernel_rfl)); (try dsimp only at t17); refine go_in (wanted_all rfl) ?_; intro K hk; clear haft hK hLi; go_simp; exact hk.out g x (fun _ _ => rfl) (hS.go rfl)
  · intro i hi; exact Or.inl (fun _ _ _ => rfl)
  refine' LinAll.cons _ ?_ ?_ ?_
  rotate_left 1
  · intro g L a x hLi haft hS hK; have t18 := hK.new 2 0 _ 18 _ rfl rfl rfl (by kernel_rfl) (waits haft 2 (by kernel_rfl)); (try dsimp only at t18); refine go_in (wanted_all rfl) ?_; intro K hk; clear haft hK hLi; go_simp; exact hk.out g x (fun _ _ => rfl) (hS.go rfl)
  · intro i hi; exact Or.inl (fun _ _ _ => rfl)
  refine' LinAll.cons _ ?_ ?_ ?_
  rotate_left 1
  · intro g L a x hLi haft hS hK; have t19 := hK.new 3 0 _ 19 _ rfl rfl rfl (by kernel_rfl) (waits haft 3 (by kernel_rfl)); (try dsimp only at t19)
    have h7 : L 7 = false := by
      cases e : L 7
      · rfl
      · rw [(hS.d7 e).1] at hLi; cases hLi
    have h10 := hS.no10 h7
    have c1 : x.cell? ⟨g0, 0, none⟩ = some v := cell_of ((hS.kp g0 hg (fun e => by rw [h7] at e; cases e) (fun e => by rw [h10] at e; cases e)).trans HHD.out) 0 rfl
    clear h7 h10
    refine go_in (wanted_all rfl) ?_; intro K hk; clear haft hK hLi; go_simp; exact hk.out g x (fun _ _ => rfl) (hS.go rfl)
  · intro i hi; exact Or.inl (fun _ _ _ => rfl)
  refine' LinAll.cons _ ?_ ?_ ?_
  rotate_left 1
  · intro g L a x hLi haft hS hK; have t3 := (hK.old 3 (by kernel_rfl)).trans o3; have c0 : x.cell? ⟨w.heap.size, 0, none⟩ = some (.int .i64 (k0.1 : Int)) := cell_of hS.bx 0 rfl; have c1 : x.cell? ⟨w.heap.size, 1, none⟩ = some (.int .i64 (k0.2 : Int)) := cell_of hS.bx 1 rfl; have c2 : x.cell? ⟨w.heap.size, 2, none⟩ = some (.bool (decide (k0 = (0, 0)))) := cell_of hS.bx 2 rfl; refine go_in (wanted_all rfl) ?_; intro K hk; clear haft hK hLi; go_simp; exact hk.out g x (fun _ _ => rfl) (hS.go rfl)
  · intro i hi; exact Or.inl (fun _ _ _ => rfl)
  refine LinAll.cons (fun g => .slice (some ⟨g 6, 0, none⟩) 1 1) ?_ ?_ ?_
  · intro g L a x hLi haft hS hK; have t21 := hK.new 5 0 _ 21 _ rfl rfl rfl (by kernel_rfl) (waits haft 5 (by kernel_rfl)); (try dsimp only at t21); refine go_in (wanted_all rfl) ?_; intro K hk; clear haft hK; go_simp
    have hq := hk.out (updG g 6 x.heap.size) _ (updG_al (by rfl)) (hS.built hLi)
    dsimp only at hq; rw [updG_eq] at hq; exact hq
  · intro i hi; simp only [List.mem_cons, List.not_mem_nil, or_false] at hi; rcases hi with rfl | rfl; exact Or.inr (by kernel_rfl); exact Or.inl (fun g g' h => by simp only [h 6 (by decide)])
  refine LinAll.cons (fun g => sl (ks.length + 1) (g 7)) ?_ ?_ ?_
  · intro g L a x hLi haft hS hK
    have hL4 := waits haft 4 (by kernel_rfl)
    have hL6 := waits haft 6 (by kernel_rfl)
    have t20 := hK.new 4 2 _ 20 _ rfl rfl rfl (by kernel_rfl) hL4
    have t22 := hK.new 6 0 _ 22 _ rfl rfl rfl (by kernel_rfl) hL6
    (try dsimp only at t20 t22)
    have h10 := hS.no10 hLi
    have hrow : x.ownsRow 0 69 3 v ks.length (ks.flatMap rcs) := row_kept HW.out (fun k hk => hS.kp k hk (fun e => by rw [hLi] at e; cases e) (fun e => by rw [h10] at e; cases e))
    have hb6 := hS.s6 hL6 hLi
    refine go_in (wanted_all rfl) ?_
    intro K hk
    refine wp_append_at _ (.tmp 20) (.tmp 22) 33 rfl 0 69 ti _ 3 24 underRn HI0.out.1 HI0.out.2.1 HI0.out.2.2.1 HI0.out.2.2.2 rfl (by decide) v ks.length _ (eval_tmp t20) hrow ⟨g 6, 0, none⟩ 1 1 (rcs k0) (eval_tmp t22) rfl (fun j u hj => by
      have e : (⟨g 6, 0, none⟩ : Addr).add j = ⟨g 6, j, none⟩ := by simp [Addr.add]; try (intro hq; exact hq.symm)
      rw [e]; exact cell_of hb6 j (by simpa using hj)) (one_rcs k0) (by unfold maxLen; omega) (by omega) (by have := hS.sz; omega) ?_
    intro v' y hown hgrow hat
    obtain ⟨p, rfl⟩ := sl_own hown (by omega)
    have hown' : y.ownsRow 0 69 3 (sl (ks.length + 1) p) (ks.length + 1) ((ks ++ [k0]).flatMap rcs) := by rw [List.flatMap_append]; simpa using hown
    have hq := hk.out (updG g 7 p) y (updG_al (by rfl)) (hS.app hL4 hL6 hLi HBV.out hgrow hown' hat)
    dsimp only at hq; rw [updG_eq] at hq; exact hq
  · intro i hi; simp only [List.mem_cons, List.not_mem_nil, or_false] at hi; rcases hi with rfl | rfl; exact Or.inl (fun g g' h => by simp only [h 7 (by decide)]); exact Or.inr (by kernel_rfl)
  refine' LinAll.cons _ ?_ ?_ ?_
  rotate_left 1
  · intro g L a x hLi haft hS hK; have t16 := hK.new 0 7 _ 16 _ rfl rfl rfl (by kernel_rfl) (waits haft 0 (by kernel_rfl)); (try dsimp only at t16); refine go_in (wanted_all rfl) ?_; intro K hk; clear haft hK hLi; go_simp; exact hk.out g x (fun _ _ => rfl) (hS.go rfl)
  · intro i hi; exact Or.inl (fun _ _ _ => rfl)
  refine' LinAll.cons _ ?_ ?_ ?_
  rotate_left 1
  · intro g L a x hLi haft hS hK; have t24 := hK.new 8 0 _ 24 _ rfl rfl rfl (by kernel_rfl) (waits haft 8 (by kernel_rfl)); (try dsimp only at t24); refine go_in (wanted_all rfl) ?_; intro K hk; clear haft hK hLi; go_simp; exact hk.out g x (fun _ _ => rfl) (hS.go rfl)
  · intro i hi; exact Or.inl (fun _ _ _ => rfl)
  refine LinAll.cons (fun _ => undef) ?_ ?_ ?_
  · intro g L a x hLi haft hS hK
    have hL7 := waits haft 7 (by kernel_rfl)
    have t23 := hK.new 7 2 _ 23 _ rfl rfl rfl (by kernel_rfl) hL7
    have t25 := hK.new 9 0 _ 25 _ rfl rfl rfl (by kernel_rfl) (waits haft 9 (by kernel_rfl))
    (try dsimp only at t23 t25)
    have hh := (hS.kp g0 hg (fun _ e => HNE.out e.symm) (fun e => by rw [hLi] at e; cases e)).trans HHD.out
    have c1 : x.cell? ⟨g0, 0, none⟩ = some v := cell_of hh 0 rfl
    have f1 : x.frozen? ⟨g0, 0, none⟩ = false := by simp [World.frozen?, hh]
    have hnew := hS.store hL7 hLi hg HNE.out HHD.out
    unfold sl at t23
    refine go_in (wanted_all rfl) ?_
    intro K hk
    clear haft hK hLi hh
    go_simp
    exact hk.out g _ (fun _ _ => rfl) hnew
  · intro i hi; exact Or.inl (fun _ _ _ => rfl)
  refine LinAll.nil fun g x hS => ?_
  subst ha0
  simp only [Act.put, List.setIfInBounds_toArray, List.set_cons_zero, List.set_cons_succ]
  clear o0 o3
  have HS : Hid _ := hS
  have HX : Hid (x.heap[g0]? = some (.cells #[sl (ks.length + 1) (g 7), .int .i64 (mo : Int)] 35)) := hS.h10 rfl
  have cx : x.cell? ⟨g0, 0, none⟩ = some (sl (ks.length + 1) (g 7)) := cell_of (hS.h10 rfl) 0 rfl
  unfold sl at cx
  clear hS
  have hL : ks.length ≤ 32768 := by omega
  go_wp2_with fail
  refine bodyPost_ret (v := .tuple #[.int .i64 (2 * ((ks.length : Int) + 1)), .int .i64 0]) (by simp [results, Try.results45, go_sem]) rfl ?_
  have hs := HS.out
  have hz := hs.sz
  obtain ⟨r1, r2⟩ := hs.r7 rfl
  refine ⟨rfl, sl (ks.length + 1) (g 7), HX.out, by rw [List.length_append]; exact r1, ?_, hs.os, hs.tape, hs.output, by omega, fun k h1 h2 h3 => hs.kp k h1 (fun _ => h3) (fun _ => h2)⟩
  rcases r2 with e | ⟨b, e, hb⟩
  · exact Or.inl e
  · exact Or.inr ⟨b, e, by omega⟩
end Go.Proofs.Ytdmochghcmeebaa
