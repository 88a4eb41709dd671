/- Contracts (traces): bytes that are read: Equal, HasPrefix, CutPrefix. -/
import Derived.Test.YthdgmkjjpmigeaaTR3
import Derived.Shelf.Bytes.SlEqualAll
import Derived.Lib.AppendStr
namespace Go.Proofs.Ythdgmkjjpmigeaa
open Go.RowKit
set_option linter.unusedSimpArgs false
set_option linter.unusedVariables false

theorem u8Under : Try.prog.underlying 5 = some (.int .u8) := by kernel_rfl
theorem bytesUnder : Try.prog.underlying 23 = some (.slice 5) := by kernel_rfl
theorem strUnder : Try.prog.underlying 9 = some .string := by kernel_rfl
theorem infoByte : (Try.prog.info? 5).map (fun i => (i.zero, i.size, i.bytes)) = some (some (.int .u8 0), 1, 1) := by kernel_rfl
/-- The cells behind g, o hold these bytes. -/
def Lb (w : World) (g o : Nat) (l : List Int) : Prop := ∀ j, j < l.length → w.cell? ⟨g, o + j, none⟩ = some (.int .u8 (l.getD j 0))
def byts (l : List Int) : Prop := ∀ x ∈ l, 0 ≤ x ∧ x < 256
/-- v is a slice of these bytes, wherever they lie. -/
structure Br (w : World) (v : Value) (l : List Int) : Prop where
  ex : ∃ a c, v = .slice a l.length c ∧ l.length ≤ c ∧ (l = [] ∨ ∃ r o, a = some ⟨r, o, none⟩ ∧ r < w.heap.size ∧ Lb w r o l)
  byte : byts l
theorem Lb.below {w w' : World} {r o : Nat} {l : List Int} (h : Lb w r o l) (hb : w'.heap[r]? = w.heap[r]?) : Lb w' r o l := fun j hj => (World.cell?_of_block (a := ⟨r, o + j, none⟩) hb).trans (h j hj)
theorem Br.below {w w' : World} {v : Value} {l : List Int} (h : Br w v l) (hb : Below w.heap.size w w') : Br w' v l := by
  obtain ⟨a, c, e, hc, h2⟩ := h.ex
  refine ⟨⟨a, c, e, hc, ?_⟩, h.byte⟩
  rcases h2 with h2 | ⟨r, o, ha, hr, h2⟩
  · exact Or.inl h2
  · exact Or.inr ⟨r, o, ha, Nat.lt_of_lt_of_le hr hb.size, h2.below (hb.block r hr)⟩
theorem Br.out {w : World} {v : Value} {l : List Int} (h : Br w v l) : ∃ a c, v = .slice a l.length c ∧ l.length ≤ c := by
  obtain ⟨a, c, e, hc, -⟩ := h.ex
  exact ⟨a, c, e, hc⟩
theorem Br.at' {w wr : World} {a : Option Addr} {n c : Nat} {l : List Int} (h : Br w (.slice a n c) l) (hb : Below w.heap.size w wr) {k : Nat} (hk : k < l.length) : ∃ r o, a = some ⟨r, o, none⟩ ∧ wr.cell? ⟨r, o + k, none⟩ = some (.int .u8 (l.getD k 0)) := by
  obtain ⟨a', c', e, -, h2⟩ := h.ex
  injection e with e1 e2 e3
  subst e1
  rcases h2 with h2 | ⟨r, o, ha, hr, h2⟩
  · subst h2; simp at hk
  · exact ⟨r, o, ha, bel_cell hb hr (h2 k hk)⟩
set_option maxRecDepth 20000 in
theorem Br.conv {w : World} {a : Option Addr} {n c : Nat} {l : List Int} (h : Br w (.slice a n c) l) : (convert 23 9 (.slice a n c)).run Try.prog w = .ok (.string (strOfNums l)) w := by
  obtain ⟨a', c', e, -, h2⟩ := h.ex
  injection e with e1 e2 e3
  subst e1 e2
  refine Lib.BytesIn.convert (xs := l) (fun hn => ?_) rfl c _ _ _ bytesUnder u8Under strUnder
  rcases h2 with h2 | ⟨r, o, ha, hr, h2⟩
  · subst h2; simp at hn
  · exact ⟨r, o, ha, fun i hi => h2 i hi⟩
theorem ofNat_inj {x y : Int} (hx : 0 ≤ x ∧ x < 256) (hy : 0 ≤ y ∧ y < 256) (h : UInt8.ofNat x.toNat = UInt8.ofNat y.toNat) : x = y := by
  have := congrArg UInt8.toNat h
  rw [UInt8.toNat_ofNat', UInt8.toNat_ofNat', Nat.mod_eq_of_lt (by omega), Nat.mod_eq_of_lt (by omega)] at this
  omega
theorem map_inj : ∀ {l m : List Int}, byts l → byts m → l.map (fun n => UInt8.ofNat n.toNat) = m.map (fun n => UInt8.ofNat n.toNat) → l = m
  | [], [], _, _, _ => rfl
  | [], _ :: _, _, _, h => by simp at h
  | _ :: _, [], _, _, h => by simp at h
  | x :: l, y :: m, hl, hm, h => by
    simp only [List.map_cons, List.cons.injEq] at h
    rw [ofNat_inj (hl x (by simp)) (hm y (by simp)) h.1, map_inj (fun z hz => hl z (by simp [hz])) (fun z hz => hm z (by simp [hz])) h.2]
theorem str_eq {l m : List Int} (hl : byts l) (hm : byts m) : ((strOfNums l).toList == (strOfNums m).toList) = decide (l = m) := by
  rw [Lib.strOfNums_toList, Lib.strOfNums_toList, Bool.eq_iff_iff, decide_eq_true_eq, beq_iff_eq]
  exact ⟨fun h => map_inj hl hm h, fun h => by rw [h]⟩
theorem equal_any {w : World} {u v : Value} {l m : List Int} (h : Br w u l) (h' : Br w v m) :
    Calls Try.prog 57 #[u, v] w fun e w' => e = .returned (.bool (decide (l = m))) ∧ w' = w := by
  obtain ⟨a, c, rfl, -⟩ := h.out
  obtain ⟨a', c', rfl, -⟩ := h'.out
  have c1 := h.conv
  have c2 := h'.conv
  have HE : Hid _ := str_eq h.byte h'.byte
  obtain ⟨n, hn⟩ : ∃ n, n = l.length := ⟨_, rfl⟩
  obtain ⟨n', hn'⟩ : ∃ n, n = m.length := ⟨_, rfl⟩
  obtain ⟨S, hS⟩ : ∃ S, S = strOfNums l := ⟨_, rfl⟩
  obtain ⟨T, hT⟩ : ∃ T, T = strOfNums m := ⟨_, rfl⟩
  rw [← hn, ← hS] at c1
  rw [← hn', ← hT] at c2
  rw [← hS, ← hT] at HE
  rw [← hn, ← hn', ← HE.out]
  clear h h' hn hn' hS hT HE
  go_enter Try.func57, Try.ntmps57
  go_wp2_with fail
  go_ret
  exact ⟨by first | rfl | simp, rfl⟩
theorem byts_take {l : List Int} (h : byts l) (k : Nat) : byts (l.take k) := fun x hx => h x (List.mem_of_mem_take hx)
theorem byts_drop {l : List Int} (h : byts l) (k : Nat) : byts (l.drop k) := fun x hx => h x (List.mem_of_mem_drop hx)
theorem Br.take {w : World} {r o n c : Nat} {l : List Int} (h : Br w (.slice (some ⟨r, o, none⟩) n c) l) {k : Nat} (hk : k ≤ l.length) : Br w (.slice (some ⟨r, o, none⟩) k c) (l.take k) := by
  obtain ⟨a', c', e, hc, h2⟩ := h.ex
  injection e with e1 e2 e3
  subst e3
  have hlen : (l.take k).length = k := by rw [List.length_take]; omega
  refine ⟨⟨_, c, by rw [hlen], by rw [hlen]; omega, ?_⟩, byts_take h.byte k⟩
  rcases h2 with h2 | ⟨r', o', ha, hr, h2⟩
  · exact Or.inl (by rw [h2]; simp)
  · rw [← e1] at ha
    injection ha with ha
    injection ha with ha1 ha2
    subst ha1 ha2
    refine Or.inr ⟨r, o, rfl, hr, fun j hj => ?_⟩
    rw [hlen] at hj
    rw [List.getD_eq_getElem?_getD, List.getElem?_take_of_lt hj, ← List.getD_eq_getElem?_getD]
    exact h2 j (by omega)
theorem Br.drop {w : World} {r o n c : Nat} {l : List Int} (h : Br w (.slice (some ⟨r, o, none⟩) n c) l) {k : Nat} (hk : k ≤ l.length) : Br w (.slice (some ⟨r, o + k, none⟩) (n - k) (c - k)) (l.drop k) := by
  obtain ⟨a', c', e, hc, h2⟩ := h.ex
  injection e with e1 e2 e3
  subst e3
  have hlen : (l.drop k).length = l.length - k := List.length_drop
  refine ⟨⟨_, c - k, by rw [hlen, e2], by rw [hlen]; omega, ?_⟩, byts_drop h.byte k⟩
  rcases h2 with h2 | ⟨r', o', ha, hr, h2⟩
  · exact Or.inl (by rw [h2]; simp)
  · rw [← e1] at ha
    injection ha with ha
    injection ha with ha1 ha2
    subst ha1 ha2
    refine Or.inr ⟨r, o + k, rfl, hr, fun j hj => ?_⟩
    rw [hlen] at hj
    rw [List.getD_eq_getElem?_getD, List.getElem?_drop, ← List.getD_eq_getElem?_getD, Nat.add_assoc]
    exact h2 (k + j) (by omega)
theorem Br.addr {w : World} {a : Option Addr} {n c : Nat} {l : List Int} (h : Br w (.slice a n c) l) (hl : 0 < l.length) : ∃ r o, a = some ⟨r, o, none⟩ := by
  obtain ⟨r, o, e, -⟩ := h.at' (Below.refl _ _) hl
  exact ⟨r, o, e⟩
/-- Does l begin with m? -/
def pfx (l m : List Int) : Bool := decide (l.take m.length = m)
theorem hasPrefix_any {w : World} {u v : Value} {l m : List Int} (h : Br w u l) (h' : Br w v m) (hl : l.length ≤ 5000000) (hm : m.length = 4) :
    Calls Try.prog 51 #[u, v] w fun e w' => e = .returned (.bool (pfx l m)) ∧ w' = w := by
  obtain ⟨a, c, rfl, hc⟩ := h.out
  obtain ⟨a', c', rfl, hc'⟩ := h'.out
  obtain ⟨n, hn⟩ : ∃ n, n = l.length := ⟨_, rfl⟩
  obtain ⟨R, hR⟩ : ∃ R, R = pfx l m := ⟨_, rfl⟩
  have HR : Hid _ := hR
  rw [← hR]
  rw [hm] at hc' ⊢
  rw [hm] at h'
  by_cases h4 : 4 ≤ n
  · obtain ⟨r, o, rfl⟩ := h.addr (by omega)
    have HE : Hid _ := equal_any (h.take (k := 4) (by omega)) h'
    have HE2 : Hid (decide (l.take 4 = m) = R) := by unfold Hid; rw [HR.out]; unfold pfx; rw [hm]
    rw [HE2.out] at HE
    rw [← hn] at hc ⊢
    have h4I : (4 : Int) ≤ (n : Int) := by omega
    have hcI : (4 : Int) ≤ (c : Int) := by omega
    clear h h' hn hR hm hl
    go_enter Try.func51, Try.ntmps51
    go_wp2_with fail
    refine Calls.mono HE.out ?_
    rintro e w1 ⟨rfl, rfl⟩
    go_wp2_with fail
    go_ret
    exact ⟨by first | rfl | simp, rfl⟩
  · have h4I : ¬ (4 : Int) ≤ (n : Int) := by omega
    have h4d : decide ((4 : Int) ≤ (n : Int)) = false := decide_eq_false h4I
    have HF : Hid (R = false) := by
      unfold Hid
      rw [HR.out]
      unfold pfx
      rw [decide_eq_false_iff_not]
      intro e
      have := congrArg List.length e
      rw [List.length_take] at this
      omega
    rw [← hn]
    clear h h' hn hR hm hl h4 hc hc' h4I
    go_enter Try.func51, Try.ntmps51
    go_wp2_with fail
    go_ret
    exact ⟨by rw [HF.out]; rfl, rfl⟩
theorem cutPrefix_any {w : World} {u v : Value} {l m : List Int} (h : Br w u l) (h' : Br w v m) (hl : l.length ≤ 5000000) (hm : m.length = 4) :
    Calls Try.prog 38 #[u, v] w fun e w' => (∃ u', e = .returned (.tuple #[u', .bool (pfx l m)]) ∧ Br w u' (if pfx l m then l.drop 4 else l)) ∧ w' = w := by
  have HP : Hid _ := hasPrefix_any h h' hl hm
  obtain ⟨a, c, rfl, hc⟩ := h.out
  obtain ⟨a', c', rfl, hc'⟩ := h'.out
  obtain ⟨n, hn⟩ : ∃ n, n = l.length := ⟨_, rfl⟩
  obtain ⟨R, hR⟩ : ∃ R, R = pfx l m := ⟨_, rfl⟩
  rw [← hR] at HP ⊢
  rw [hm] at HP ⊢
  rw [← hn] at HP hc ⊢
  have HB : Hid _ := h
  cases R with
  | true =>
    have h4 : 4 ≤ n := by
      have := congrArg List.length (of_decide_eq_true hR.symm)
      rw [List.length_take] at this
      omega
    obtain ⟨r, o, rfl⟩ := h.addr (by omega)
    have HD : Hid (Br w (.slice (some ⟨r, o + 4, none⟩) (n - 4) (c - 4)) (l.drop 4)) := by
      unfold Hid; rw [hn]; exact h.drop (by omega)
    have h4I : (4 : Int) ≤ (n : Int) := by omega
    have hnc : (n : Int) ≤ (c : Int) := by omega
    by_cases hc4 : c = 4
    · have HD2 : Hid (Br w (.slice (some ⟨r, o, none⟩) 0 0) (l.drop 4)) := by
        have e : l.drop 4 = [] := List.drop_eq_nil_of_le (by omega)
        unfold Hid
        rw [e]
        exact ⟨⟨_, _, rfl, Nat.le_refl _, Or.inl rfl⟩, fun x hx => nomatch hx⟩
      subst hc4
      clear h h' hn hR hm hl
      go_enter Try.func38, Try.ntmps38
      go_wp2_with fail
      refine Calls.mono HP.out ?_
      rintro e w1 ⟨rfl, rfl⟩
      go_wp2_with fail
      go_ret2
      exact ⟨⟨_, rfl, HD2.out⟩, rfl⟩
    · clear h h' hn hR hm hl
      go_enter Try.func38, Try.ntmps38
      go_wp2_with fail
      refine Calls.mono HP.out ?_
      rintro e w1 ⟨rfl, rfl⟩
      go_wp2_with fail
      go_ret2
      exact ⟨⟨_, rfl, HD.out⟩, rfl⟩
  | false =>
    have HB2 : Hid (Br w (.slice a n c) l) := by unfold Hid; rw [hn]; exact HB.out
    clear h h' hn hR hm hl
    go_enter Try.func38, Try.ntmps38
    go_wp2_with fail
    refine Calls.mono HP.out ?_
    rintro e w1 ⟨rfl, rfl⟩
    go_wp2_with fail
    go_ret2
    exact ⟨⟨_, rfl, HB2.out⟩, rfl⟩
end Go.Proofs.Ythdgmkjjpmigeaa
