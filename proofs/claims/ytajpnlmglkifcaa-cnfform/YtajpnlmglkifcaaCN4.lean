/- Contracts (clauses): tell. -/
import Derived.Test.YtajpnlmglkifcaaCN3
namespace Go.Proofs.Ytajpnlmglkifcaa
open Go.RowKit
set_option linter.unusedSimpArgs false
set_option linter.unusedVariables false

/-- What the map of polarities has, where the literals T are told. -/
def pvT (T : List Nat) (n : Nat) : Int := (if 2 * n ∈ T then 1 else 0) + (if 2 * n + 1 ∈ T then 2 else 0)
def polF (T : List Nat) (n : Int) : Option Int := if n < 0 ∨ pvT T n.toNat = 0 then none else some (pvT T n.toNat)
theorem polF_get (T : List Nat) (n : Nat) : (polF T (n : Int)).getD 0 = pvT T n := by
  unfold polF
  rw [Int.toNat_natCast]
  split
  · rename_i h
    rcases h with h | h
    · omega
    · rw [h]; rfl
  · rfl
theorem or_1 : bits .or .i64 0 1 = 1 := by decide
theorem or_2 : bits .or .i64 0 2 = 2 := by decide
theorem or_3 : bits .or .i64 2 1 = 3 := by decide
theorem or_4 : bits .or .i64 1 2 = 3 := by decide
theorem pvT_or {T : List Nat} {l : Nat} (h : l ∉ T) : bits .or .i64 (pvT T (l / 2)) (pol l) = pvT (T ++ [l]) (l / 2) ∧ pvT (T ++ [l]) (l / 2) ≠ 0 := by
  unfold pvT pol
  rcases Nat.mod_two_eq_zero_or_one l with e | e
  · have e1 : 2 * (l / 2) = l := by omega
    have e2 : ¬ l + 1 = l := by omega
    rw [e1, if_pos e]
    by_cases h2 : l + 1 ∈ T
    · simp [h, h2, or_3]
    · simp [h, h2, or_1]
  · have e1 : 2 * (l / 2) + 1 = l := by omega
    have e3 : 2 * (l / 2) ≠ l := by omega
    have hp : ¬ l % 2 = 0 := by omega
    rw [e1, if_neg hp]
    by_cases h2 : 2 * (l / 2) ∈ T
    · simp [h, h2, or_4]
    · simp [h, h2, or_2, e3]
theorem polF_snoc {T : List Nat} {l : Nat} (h : l ∉ T) : upf (polF T) ((l / 2 : Nat) : Int) (bits .or .i64 (pvT T (l / 2)) (pol l)) = polF (T ++ [l]) := by
  obtain ⟨h1, h2⟩ := pvT_or h
  funext x
  unfold upf
  by_cases hx : x = ((l / 2 : Nat) : Int)
  · subst hx
    rw [if_pos rfl, h1]
    unfold polF
    rw [Int.toNat_natCast, if_neg (by omega)]
  · rw [if_neg hx]
    unfold polF
    by_cases h0 : x < 0
    · rw [if_pos (Or.inl h0), if_pos (Or.inl h0)]
    · have hp : pvT (T ++ [l]) x.toNat = pvT T x.toNat := by
        unfold pvT
        have a1 : ¬ 2 * x.toNat = l := by omega
        have a2 : ¬ 2 * x.toNat + 1 = l := by omega
        simp [a1, a2]
      rw [hp]
theorem isK_ne {k : Kd} (h : isK k = true) : k ≠ (0, 0) := by
  intro e
  rw [e] at h
  exact absurd h (by decide)
/-- The clauses of a literal. -/
def cls (ks : List Kd) (V : Int → Option Int) (l : Nat) : List (List Int) :=
  if l / 2 = 0 then [[lit V l]] else
    match ks[l / 2]? with
    | none => []
    | some k => if isK k then (if l % 2 = 1 then [[- lit V l, - lit V k.1, - lit V k.2]] else [[- lit V l, lit V k.1], [- lit V l, lit V k.2]]) else []
theorem lit_rng {V : Int → Option Int} (hV : ∀ n, 0 ≤ (V n).getD 0 ∧ (V n).getD 0 ≤ 1000000) (l : Nat) : -1000000 ≤ lit V l ∧ lit V l ≤ 1000000 := by
  have := hV ((l / 2 : Nat) : Int)
  unfold lit
  split <;> omega
set_option maxRecDepth 20000 in
set_option maxHeartbeats 25600000 in
theorem tell_0 {w : World} {F : Nat → Prop} {B b e g mo mv mp l : Nat} {ks : List Kd} {vars : Int} {V : Int → Option Int} {T : List Nat} {v : Value} {us : List Value} {C : List (List Int)}
    (hE : En w e g vars mv mp V (polF T)) (hG : Gr w F g mo ks) (hF : ∀ k, F k → k < B ∧ k ≠ mp) (hT : Gt w B b v us C) (heB : e < B) (hvB : mv < B) (hpB : mp < B) (hBw : B ≤ w.heap.size)
    (hl : l ∉ T) (hll : l / 2 < ks.length) (hks : ks.length ≤ 40000) (hV : ∀ n, 0 ≤ (V n).getD 0 ∧ (V n).getD 0 ≤ 1000000) (hC : C.length ≤ 90000) (hz : l / 2 = 0) :
    Calls Try.prog 44 #[.pointer (some ⟨e, 0, none⟩), .pointer (some ⟨b, 0, none⟩), .int .i64 (l : Int)] w fun ev w' => ev = .returned (.tuple #[]) ∧ En w' e g vars mv mp V (polF (T ++ [l])) ∧ Gr w' F g mo ks ∧ (∃ v' us', Gt w' B b v' us' (C ++ [[lit V l]])) ∧ Tn w w' (fun q => q = mp ∨ B ≤ q) := by
  have HND : Hid (∀ wx, Calls Try.prog 38 #[.int .i64 (l : Int)] wx fun e w' => e = .returned (.int .i64 ((l / 2 : Nat) : Int)) ∧ w' = wx) := fun wx => cnode_any l wx
  have HPO : Hid (∀ wx, Calls Try.prog 51 #[.int .i64 (l : Int)] wx fun e w' => e = .returned (.int .i64 (pol l)) ∧ w' = wx) := fun wx => polarity_any (by omega) wx
  have HTU : Hid (∀ wx, Calls Try.prog 53 #[.int .i64 (l : Int)] wx fun e w' => e = .returned (.int .i64 ((l % 2 : Nat) : Int)) ∧ w' = wx) := fun wx => turned_any (by omega) wx
  have c3 := cell_of hE.hd 3 rfl
  have hk6 : w64 ((l / 2 : Nat) : Int) := by unfold w64; omega
  have hlk := (hE.ps.kept (w' := w.drew) rfl).look hk6
  rw [polF_get] at hlk
  obtain ⟨w1, hup, hI1, hgr, hsz⟩ := (hE.ps.kept (w' := w.drew) rfl).put hk6 (bits .or .i64 (pvT T (l / 2)) (pol l))
  rw [polF_snoc hl] at hI1
  have hsep := hE.sep
  have hE1 : En w1 e g vars mv mp V (polF (T ++ [l])) := ⟨(hgr.block e hE.lt (fun q => hsep.2 (by injection q))).trans hE.hd, hE.vs.kept (hgr.block mv hE.vs.lt (fun q => hE.ne (by injection q))), hI1, hE.ne⟩
  have hG1 : Gr w1 F g mo ks := hG.kept (fun k hk hf => hgr.block k hk (fun q => (hF k hf).2 (by injection q)))
  have hTn : Tn w w1 (fun q => q = mp ∨ B ≤ q) := ⟨hgr.os, hgr.tape, hgr.output, hgr.size, fun q hq hn => hgr.block q hq (fun e => hn (Or.inl (by injection e)))⟩
  have HT1 : Hid (Gt w1 B b v us C) := hT.kept hgr.size (fun q hq hB => hgr.block q hq (fun e => by injection e with e; omega))
  have hsz1 : w1.heap.size = w.heap.size := hsz
  have HFI : Hid (∀ wx, Below B w1 wx → En wx e g vars mv mp V (polF (T ++ [l])) ∧ Gr wx F g mo ks ∧ Tn w wx (fun q => q = mp ∨ B ≤ q)) := fun wx hb =>
    ⟨hE1.kept (fun q hq => hb.block q (by rcases hq with rfl | rfl | rfl <;> assumption)), hG1.kept (fun k _ hf => hb.block k (hF k hf).1), hTn.trans ⟨hb.os, hb.tape, hb.output, hb.size, fun q _ hn => hb.block q (by have := fun h => hn (Or.inr h); omega)⟩⟩
  have HG1 : Hid _ := hG1
  have HLT : Hid (∀ (x : Nat) wx, Below w1.heap.size w1 wx → x < 1000000 → Calls Try.prog 45 #[.pointer (some ⟨e, 0, none⟩), .int .i64 (x : Int)] wx fun ev w' => ev = .returned (.int .i64 (lit V x)) ∧ Below wx.heap.size wx w') := fun x wx hb hx => literal_any (hE1.below hb) hx (by have := hV ((x / 2 : Nat) : Int); unfold w64; omega) (hV _).1
  have hel := hE.lt
  have hrl := lit_rng hV l
  have d0 : w1.cell? ⟨e, 0, none⟩ = some (.pointer (some ⟨g, 0, none⟩)) := cell_of hE1.hd 0 rfl
  have HKD : Hid (∀ wx, Below w1.heap.size w1 wx → Calls Try.prog 52 #[.pointer (some ⟨g, 0, none⟩), .int .i64 ((l / 2 : Nat) : Int)] wx fun ev w' => ev = .returned (.tuple #[.int .i64 (kidF ks ((l / 2 : Nat) : Int)).1, .int .i64 (kidF ks ((l / 2 : Nat) : Int)).2.1, .bool (kidF ks ((l / 2 : Nat) : Int)).2.2]) ∧ Below wx.heap.size wx w') := fun wx hb => by
    have h1 := kids_any (hG1.below hb) ((l / 2 : Nat) : Int)
    rw [show kidF ks ((l / 2 : Nat) : Int) = ((kidF ks ((l / 2 : Nat) : Int)).1, (kidF ks ((l / 2 : Nat) : Int)).2.1, (kidF ks ((l / 2 : Nat) : Int)).2.2) from rfl] at h1
    exact h1
  obtain ⟨ka, hka⟩ : ∃ x, x = (kidF ks ((l / 2 : Nat) : Int)).1 := ⟨_, rfl⟩
  obtain ⟨kb, hkb⟩ : ∃ x, x = (kidF ks ((l / 2 : Nat) : Int)).2.1 := ⟨_, rfl⟩
  obtain ⟨kc, hkc⟩ : ∃ x, x = (kidF ks ((l / 2 : Nat) : Int)).2.2 := ⟨_, rfl⟩
  rw [← hka, ← hkb, ← hkc] at HKD
  clear hka hkb hkc
  obtain ⟨n, hn⟩ : ∃ n, n = l / 2 := ⟨_, rfl⟩
  have HN : Hid _ := hn
  obtain ⟨pv, hpv⟩ : ∃ x, x = pvT T (l / 2) := ⟨_, rfl⟩
  obtain ⟨pl, hpl⟩ : ∃ x, x = pol l := ⟨_, rfl⟩
  obtain ⟨r, hr⟩ : ∃ x, x = lit V l := ⟨_, rfl⟩
  rw [← hpv] at hlk hup
  rw [← hpl] at hup HPO
  rw [← hn] at hlk hup HND HKD
  have HLL : Hid (∀ wx, Below w1.heap.size w1 wx → Calls Try.prog 45 #[.pointer (some ⟨e, 0, none⟩), .int .i64 (l : Int)] wx fun ev w' => ev = .returned (.int .i64 r) ∧ Below wx.heap.size wx w') := fun wx hb => by rw [hr]; exact HLT.out l wx hb (by omega)
  rw [← hr] at hrl
  (try rw [← hr])
  clear hE hG hT hE1 hG1 hTn hI1 hgr hV hpv hpl hk6 hsep hn hl hr
  go_enter Try.func44, Try.ntmps44
  go_wp2_with fail
  go_region_with ((first | (go_at_call 38; refine (HND.out _).mono ?_; rintro ev wq ⟨rfl, hq⟩; rw [hq]; clear hq wq) | (go_at_call 51; refine (HPO.out _).mono ?_; rintro ev wq ⟨rfl, hq⟩; rw [hq]; clear hq wq)))
  all_goals
    clear hlk hup c3
    go_wp2_with fail
    refine (HLL.out _ (Below.refl _ _)).mono ?_
    rintro ev w2 ⟨rfl, hb2⟩
    have d2 := keep_cell hb2 d0
    have HB2 : Hid _ := hb2
    clear hb2
    go_wp2_with fail
    go_region_held3 (fun y => y.cell? ⟨e, 0, none⟩ = some (.pointer (some ⟨g, 0, none⟩)) ∧ Below w1.heap.size w1 y)
      ((first | (obtain ⟨q0, q2⟩ := ‹_ ∧ _›; with_reducible exact ⟨keep_cell hbk q0, below_step q2 hbk⟩) | exact ⟨d2, below_step HB2.out (drew_low _ _)⟩))
      ((first | (go_at_call 38; refine (HND.out _).mono ?_; rintro ev wz ⟨rfl, hq⟩; subst hq) | (go_at_call 52; have qq := ‹_ ∧ _›; refine (HKD.out _ qq.2).mono ?_; rintro ev wz ⟨rfl, hbk⟩)))
    obtain ⟨-, hb3⟩ := ‹_ ∧ _›
    have HB3 : Hid _ := hb3
    clear hb3 d2
    go_wp2_with fail
    refine (HND.out _).mono ?_
    rintro ev wz ⟨rfl, hz⟩
    rw [hz]
    clear hz wz
    have hn0 : n = 0 := by rw [HN.out]; exact hz
    have hn1 : ((n : Int) == 0) = true := by rw [hn0]; rfl
    have hB0 : B ≤ wz.heap.size := by have := HB3.out.size; omega
    have hT3 := HT1.out.below HB3.out
    go_wp2_with fail
    have hc0 : Cl (wz.alloc (.cells #[.int .i64 (r)] 3)) B (.slice (some ⟨wz.heap.size, 0, none⟩) 1 1) [r] wz.heap.size := ⟨rfl, hB0, heap_alloc_new _ _⟩
    have hg0 := hT3.below ((Below.refl wz.heap.size wz).alloc (Nat.le_refl _) (.cells #[.int .i64 (r)] 3))
    refine (add_cl hg0 hc0 (by have := (hT3).lt; omega) (fun e => by have := ((hT3).row.lt _ e).2; omega) (by omega) (by rw [size_alloc']; omega)).mono ?_
    rintro ev w5 ⟨rfl, ⟨v', us', hT5⟩, hb5⟩
    have HT5 : Hid _ := hT5
    have HB5 : Hid (Below B w1 w5) := (HB3.out.mono (by omega)).trans ((((Below.refl _ _).alloc (Nat.le_refl _) _).mono hB0).trans hb5)
    clear hT5 hb5 hc0 hg0 hT3
    go_wp2_with fail
    go_end0
    obtain ⟨f1, f2, f3⟩ := HFI.out w5 HB5.out
    exact ⟨by first | rfl | trivial, f1, f2, ⟨v', us', HT5.out⟩, f3⟩
set_option maxRecDepth 20000 in
set_option maxHeartbeats 25600000 in
theorem tell_t {w : World} {F : Nat → Prop} {B b e g mo mv mp l : Nat} {ks : List Kd} {vars : Int} {V : Int → Option Int} {T : List Nat} {v : Value} {us : List Value} {C : List (List Int)}
    (hE : En w e g vars mv mp V (polF T)) (hG : Gr w F g mo ks) (hF : ∀ k, F k → k < B ∧ k ≠ mp) (hT : Gt w B b v us C) (heB : e < B) (hvB : mv < B) (hpB : mp < B) (hBw : B ≤ w.heap.size)
    (hl : l ∉ T) (hll : l / 2 < ks.length) (hks : ks.length ≤ 40000) (hV : ∀ n, 0 ≤ (V n).getD 0 ∧ (V n).getD 0 ≤ 1000000) (hC : C.length ≤ 90000) {k : Kd} (hn0 : ¬ l / 2 = 0) (hk : ks[l / 2]? = some k) (hik : isK k = true) (ht : l % 2 = 1) :
    Calls Try.prog 44 #[.pointer (some ⟨e, 0, none⟩), .pointer (some ⟨b, 0, none⟩), .int .i64 (l : Int)] w fun ev w' => ev = .returned (.tuple #[]) ∧ En w' e g vars mv mp V (polF (T ++ [l])) ∧ Gr w' F g mo ks ∧ (∃ v' us', Gt w' B b v' us' (C ++ [[- lit V l, - lit V k.1, - lit V k.2]])) ∧ Tn w w' (fun q => q = mp ∨ B ≤ q) := by
  have HND : Hid (∀ wx, Calls Try.prog 38 #[.int .i64 (l : Int)] wx fun e w' => e = .returned (.int .i64 ((l / 2 : Nat) : Int)) ∧ w' = wx) := fun wx => cnode_any l wx
  have HPO : Hid (∀ wx, Calls Try.prog 51 #[.int .i64 (l : Int)] wx fun e w' => e = .returned (.int .i64 (pol l)) ∧ w' = wx) := fun wx => polarity_any (by omega) wx
  have HTU : Hid (∀ wx, Calls Try.prog 53 #[.int .i64 (l : Int)] wx fun e w' => e = .returned (.int .i64 ((l % 2 : Nat) : Int)) ∧ w' = wx) := fun wx => turned_any (by omega) wx
  have c3 := cell_of hE.hd 3 rfl
  have hk6 : w64 ((l / 2 : Nat) : Int) := by unfold w64; omega
  have hlk := (hE.ps.kept (w' := w.drew) rfl).look hk6
  rw [polF_get] at hlk
  obtain ⟨w1, hup, hI1, hgr, hsz⟩ := (hE.ps.kept (w' := w.drew) rfl).put hk6 (bits .or .i64 (pvT T (l / 2)) (pol l))
  rw [polF_snoc hl] at hI1
  have hsep := hE.sep
  have hE1 : En w1 e g vars mv mp V (polF (T ++ [l])) := ⟨(hgr.block e hE.lt (fun q => hsep.2 (by injection q))).trans hE.hd, hE.vs.kept (hgr.block mv hE.vs.lt (fun q => hE.ne (by injection q))), hI1, hE.ne⟩
  have hG1 : Gr w1 F g mo ks := hG.kept (fun k hk hf => hgr.block k hk (fun q => (hF k hf).2 (by injection q)))
  have hTn : Tn w w1 (fun q => q = mp ∨ B ≤ q) := ⟨hgr.os, hgr.tape, hgr.output, hgr.size, fun q hq hn => hgr.block q hq (fun e => hn (Or.inl (by injection e)))⟩
  have HT1 : Hid (Gt w1 B b v us C) := hT.kept hgr.size (fun q hq hB => hgr.block q hq (fun e => by injection e with e; omega))
  have hsz1 : w1.heap.size = w.heap.size := hsz
  have HFI : Hid (∀ wx, Below B w1 wx → En wx e g vars mv mp V (polF (T ++ [l])) ∧ Gr wx F g mo ks ∧ Tn w wx (fun q => q = mp ∨ B ≤ q)) := fun wx hb =>
    ⟨hE1.kept (fun q hq => hb.block q (by rcases hq with rfl | rfl | rfl <;> assumption)), hG1.kept (fun k _ hf => hb.block k (hF k hf).1), hTn.trans ⟨hb.os, hb.tape, hb.output, hb.size, fun q _ hn => hb.block q (by have := fun h => hn (Or.inr h); omega)⟩⟩
  have HG1 : Hid _ := hG1
  have HLT : Hid (∀ (x : Nat) wx, Below w1.heap.size w1 wx → x < 1000000 → Calls Try.prog 45 #[.pointer (some ⟨e, 0, none⟩), .int .i64 (x : Int)] wx fun ev w' => ev = .returned (.int .i64 (lit V x)) ∧ Below wx.heap.size wx w') := fun x wx hb hx => literal_any (hE1.below hb) hx (by have := hV ((x / 2 : Nat) : Int); unfold w64; omega) (hV _).1
  have hel := hE.lt
  have hrl := lit_rng hV l
  have d0 : w1.cell? ⟨e, 0, none⟩ = some (.pointer (some ⟨g, 0, none⟩)) := cell_of hE1.hd 0 rfl
  have HKD : Hid (∀ wx, Below w1.heap.size w1 wx → Calls Try.prog 52 #[.pointer (some ⟨g, 0, none⟩), .int .i64 ((l / 2 : Nat) : Int)] wx fun ev w' => ev = .returned (.tuple #[.int .i64 (k.1 : Int), .int .i64 (k.2 : Int), .bool true]) ∧ Below wx.heap.size wx w') := fun wx hb => by
    have h1 := kids_any (hG1.below hb) ((l / 2 : Nat) : Int)
    rw [show kidF ks ((l / 2 : Nat) : Int) = ((k.1 : Int), (k.2 : Int), true) by unfold kidF; rw [if_pos (by omega), Int.toNat_natCast, hk]; simp only [hik]] at h1
    exact h1
  rw [ht] at HTU
  have hka : k.1 < 1000000 ∧ k.2 < 1000000 := (by have h1 := (hG.inv.kid (l / 2) k hk (isK_ne hik)); omega)
  obtain ⟨ka, kb⟩ := k
  dsimp only at hka HKD ⊢
  obtain ⟨la, hla⟩ : ∃ x, x = lit V ka := ⟨_, rfl⟩
  obtain ⟨lb, hlb⟩ : ∃ x, x = lit V kb := ⟨_, rfl⟩
  have HLA : Hid (∀ wx, Below w1.heap.size w1 wx → Calls Try.prog 45 #[.pointer (some ⟨e, 0, none⟩), .int .i64 (ka : Int)] wx fun ev w' => ev = .returned (.int .i64 la) ∧ Below wx.heap.size wx w') := fun wx hb => by rw [hla]; exact HLT.out ka wx hb hka.1
  have HLB : Hid (∀ wx, Below w1.heap.size w1 wx → Calls Try.prog 45 #[.pointer (some ⟨e, 0, none⟩), .int .i64 (kb : Int)] wx fun ev w' => ev = .returned (.int .i64 lb) ∧ Below wx.heap.size wx w') := fun wx hb => by rw [hlb]; exact HLT.out kb wx hb hka.2
  have hra := lit_rng hV ka
  have hrb := lit_rng hV kb
  rw [← hla] at hra
  rw [← hlb] at hrb
  rw [← hla, ← hlb]
  have hwa : IntKind.i64.wrap (-la) = -la := by rw [IntKind.wrap_i64]; omega
  have hwb : IntKind.i64.wrap (-lb) = -lb := by rw [IntKind.wrap_i64]; omega
  have hwl : IntKind.i64.wrap (-(lit V l)) = -(lit V l) := by rw [IntKind.wrap_i64]; omega
  clear hla hlb hk hik
  obtain ⟨n, hn⟩ : ∃ n, n = l / 2 := ⟨_, rfl⟩
  have HN : Hid _ := hn
  obtain ⟨pv, hpv⟩ : ∃ x, x = pvT T (l / 2) := ⟨_, rfl⟩
  obtain ⟨pl, hpl⟩ : ∃ x, x = pol l := ⟨_, rfl⟩
  obtain ⟨r, hr⟩ : ∃ x, x = lit V l := ⟨_, rfl⟩
  rw [← hpv] at hlk hup
  rw [← hpl] at hup HPO
  rw [← hn] at hlk hup HND HKD
  have HLL : Hid (∀ wx, Below w1.heap.size w1 wx → Calls Try.prog 45 #[.pointer (some ⟨e, 0, none⟩), .int .i64 (l : Int)] wx fun ev w' => ev = .returned (.int .i64 r) ∧ Below wx.heap.size wx w') := fun wx hb => by rw [hr]; exact HLT.out l wx hb (by omega)
  rw [← hr] at hrl
  (try rw [← hr])
  clear hE hG hT hE1 hG1 hTn hI1 hgr hV hpv hpl hk6 hsep hn hl hr
  go_enter Try.func44, Try.ntmps44
  go_wp2_with fail
  go_region_with ((first | (go_at_call 38; refine (HND.out _).mono ?_; rintro ev wq ⟨rfl, hq⟩; rw [hq]; clear hq wq) | (go_at_call 51; refine (HPO.out _).mono ?_; rintro ev wq ⟨rfl, hq⟩; rw [hq]; clear hq wq)))
  all_goals
    clear hlk hup c3
    go_wp2_with fail
    refine (HLL.out _ (Below.refl _ _)).mono ?_
    rintro ev w2 ⟨rfl, hb2⟩
    have d2 := keep_cell hb2 d0
    have HB2 : Hid _ := hb2
    clear hb2
    go_wp2_with fail
    go_region_held3 (fun y => y.cell? ⟨e, 0, none⟩ = some (.pointer (some ⟨g, 0, none⟩)) ∧ Below w1.heap.size w1 y)
      ((first | (obtain ⟨q0, q2⟩ := ‹_ ∧ _›; with_reducible exact ⟨keep_cell hbk q0, below_step q2 hbk⟩) | exact ⟨d2, below_step HB2.out (drew_low _ _)⟩))
      ((first | (go_at_call 38; refine (HND.out _).mono ?_; rintro ev wz ⟨rfl, hq⟩; subst hq) | (go_at_call 52; have qq := ‹_ ∧ _›; refine (HKD.out _ qq.2).mono ?_; rintro ev wz ⟨rfl, hbk⟩)))
    obtain ⟨-, hb3⟩ := ‹_ ∧ _›
    have HB3 : Hid _ := hb3
    clear hb3 d2
    go_wp2_with fail
    refine (HND.out _).mono ?_
    rintro ev wz ⟨rfl, hz⟩
    rw [hz]
    clear hz wz
    have hn1 : ((n : Int) == 0) = false := by have := HN.out; simp; omega
    have hB0 : B ≤ wz.heap.size := by have := HB3.out.size; omega
    have hwr : IntKind.i64.wrap (-r) = -r := by rw [IntKind.wrap_i64]; omega
    go_wp2_with fail
    refine (HTU.out _).mono ?_
    rintro ev wt ⟨rfl, ht2⟩
    rw [ht2]
    clear ht2 wt
    go_wp2_with fail
    refine (HLA.out _ HB3.out).mono ?_
    rintro ev w4 ⟨rfl, hb4⟩
    have HB4 : Hid (Below w1.heap.size w1 w4) := below_step HB3.out hb4
    clear hb4
    go_wp2_with fail
    refine (HLB.out _ HB4.out).mono ?_
    rintro ev w6 ⟨rfl, hb6⟩
    have HB6 : Hid (Below w1.heap.size w1 w6) := below_step HB4.out hb6
    have hB1 : B ≤ w6.heap.size := by have := HB6.out.size; omega
    have hT6 := HT1.out.below HB6.out
    clear hb6
    go_wp2_with fail
    have hc1 : Cl (w6.alloc (.cells #[.int .i64 (-r), .int .i64 (-la), .int .i64 (-lb)] 3)) B (.slice (some ⟨w6.heap.size, 0, none⟩) 3 3) [-r, -la, -lb] w6.heap.size := ⟨rfl, hB1, heap_alloc_new _ _⟩
    have hg1 := hT6.below ((Below.refl w6.heap.size w6).alloc (Nat.le_refl _) (.cells #[.int .i64 (-r), .int .i64 (-la), .int .i64 (-lb)] 3))
    refine (add_cl hg1 hc1 (by have := (hT6).lt; omega) (fun e => by have := ((hT6).row.lt _ e).2; omega) (by omega) (by rw [size_alloc']; omega)).mono ?_
    rintro ev w5 ⟨rfl, ⟨v', us', hT5⟩, hb5⟩
    have HT5 : Hid _ := hT5
    have HB5 : Hid (Below B w1 w5) := (HB6.out.mono (by omega)).trans ((((Below.refl _ _).alloc (Nat.le_refl _) _).mono hB1).trans hb5)
    clear hT5 hb5 hc1 hg1 hT6
    go_wp2_with fail
    go_end0
    obtain ⟨f1, f2, f3⟩ := HFI.out w5 HB5.out
    exact ⟨by first | rfl | trivial, f1, f2, ⟨v', us', HT5.out⟩, f3⟩
set_option maxRecDepth 20000 in
set_option maxHeartbeats 25600000 in
theorem tell_u {w : World} {F : Nat → Prop} {B b e g mo mv mp l : Nat} {ks : List Kd} {vars : Int} {V : Int → Option Int} {T : List Nat} {v : Value} {us : List Value} {C : List (List Int)}
    (hE : En w e g vars mv mp V (polF T)) (hG : Gr w F g mo ks) (hF : ∀ k, F k → k < B ∧ k ≠ mp) (hT : Gt w B b v us C) (heB : e < B) (hvB : mv < B) (hpB : mp < B) (hBw : B ≤ w.heap.size)
    (hl : l ∉ T) (hll : l / 2 < ks.length) (hks : ks.length ≤ 40000) (hV : ∀ n, 0 ≤ (V n).getD 0 ∧ (V n).getD 0 ≤ 1000000) (hC : C.length ≤ 90000) {k : Kd} (hn0 : ¬ l / 2 = 0) (hk : ks[l / 2]? = some k) (hik : isK k = true) (ht : l % 2 = 0) :
    Calls Try.prog 44 #[.pointer (some ⟨e, 0, none⟩), .pointer (some ⟨b, 0, none⟩), .int .i64 (l : Int)] w fun ev w' => ev = .returned (.tuple #[]) ∧ En w' e g vars mv mp V (polF (T ++ [l])) ∧ Gr w' F g mo ks ∧ (∃ v' us', Gt w' B b v' us' (C ++ [[- lit V l, lit V k.1], [- lit V l, lit V k.2]])) ∧ Tn w w' (fun q => q = mp ∨ B ≤ q) := by
  have HND : Hid (∀ wx, Calls Try.prog 38 #[.int .i64 (l : Int)] wx fun e w' => e = .returned (.int .i64 ((l / 2 : Nat) : Int)) ∧ w' = wx) := fun wx => cnode_any l wx
  have HPO : Hid (∀ wx, Calls Try.prog 51 #[.int .i64 (l : Int)] wx fun e w' => e = .returned (.int .i64 (pol l)) ∧ w' = wx) := fun wx => polarity_any (by omega) wx
  have HTU : Hid (∀ wx, Calls Try.prog 53 #[.int .i64 (l : Int)] wx fun e w' => e = .returned (.int .i64 ((l % 2 : Nat) : Int)) ∧ w' = wx) := fun wx => turned_any (by omega) wx
  have c3 := cell_of hE.hd 3 rfl
  have hk6 : w64 ((l / 2 : Nat) : Int) := by unfold w64; omega
  have hlk := (hE.ps.kept (w' := w.drew) rfl).look hk6
  rw [polF_get] at hlk
  obtain ⟨w1, hup, hI1, hgr, hsz⟩ := (hE.ps.kept (w' := w.drew) rfl).put hk6 (bits .or .i64 (pvT T (l / 2)) (pol l))
  rw [polF_snoc hl] at hI1
  have hsep := hE.sep
  have hE1 : En w1 e g vars mv mp V (polF (T ++ [l])) := ⟨(hgr.block e hE.lt (fun q => hsep.2 (by injection q))).trans hE.hd, hE.vs.kept (hgr.block mv hE.vs.lt (fun q => hE.ne (by injection q))), hI1, hE.ne⟩
  have hG1 : Gr w1 F g mo ks := hG.kept (fun k hk hf => hgr.block k hk (fun q => (hF k hf).2 (by injection q)))
  have hTn : Tn w w1 (fun q => q = mp ∨ B ≤ q) := ⟨hgr.os, hgr.tape, hgr.output, hgr.size, fun q hq hn => hgr.block q hq (fun e => hn (Or.inl (by injection e)))⟩
  have HT1 : Hid (Gt w1 B b v us C) := hT.kept hgr.size (fun q hq hB => hgr.block q hq (fun e => by injection e with e; omega))
  have hsz1 : w1.heap.size = w.heap.size := hsz
  have HFI : Hid (∀ wx, Below B w1 wx → En wx e g vars mv mp V (polF (T ++ [l])) ∧ Gr wx F g mo ks ∧ Tn w wx (fun q => q = mp ∨ B ≤ q)) := fun wx hb =>
    ⟨hE1.kept (fun q hq => hb.block q (by rcases hq with rfl | rfl | rfl <;> assumption)), hG1.kept (fun k _ hf => hb.block k (hF k hf).1), hTn.trans ⟨hb.os, hb.tape, hb.output, hb.size, fun q _ hn => hb.block q (by have := fun h => hn (Or.inr h); omega)⟩⟩
  have HG1 : Hid _ := hG1
  have HLT : Hid (∀ (x : Nat) wx, Below w1.heap.size w1 wx → x < 1000000 → Calls Try.prog 45 #[.pointer (some ⟨e, 0, none⟩), .int .i64 (x : Int)] wx fun ev w' => ev = .returned (.int .i64 (lit V x)) ∧ Below wx.heap.size wx w') := fun x wx hb hx => literal_any (hE1.below hb) hx (by have := hV ((x / 2 : Nat) : Int); unfold w64; omega) (hV _).1
  have hel := hE.lt
  have hrl := lit_rng hV l
  have d0 : w1.cell? ⟨e, 0, none⟩ = some (.pointer (some ⟨g, 0, none⟩)) := cell_of hE1.hd 0 rfl
  have HKD : Hid (∀ wx, Below w1.heap.size w1 wx → Calls Try.prog 52 #[.pointer (some ⟨g, 0, none⟩), .int .i64 ((l / 2 : Nat) : Int)] wx fun ev w' => ev = .returned (.tuple #[.int .i64 (k.1 : Int), .int .i64 (k.2 : Int), .bool true]) ∧ Below wx.heap.size wx w') := fun wx hb => by
    have h1 := kids_any (hG1.below hb) ((l / 2 : Nat) : Int)
    rw [show kidF ks ((l / 2 : Nat) : Int) = ((k.1 : Int), (k.2 : Int), true) by unfold kidF; rw [if_pos (by omega), Int.toNat_natCast, hk]; simp only [hik]] at h1
    exact h1
  rw [ht] at HTU
  have hka : k.1 < 1000000 ∧ k.2 < 1000000 := (by have h1 := (hG.inv.kid (l / 2) k hk (isK_ne hik)); omega)
  obtain ⟨ka, kb⟩ := k
  dsimp only at hka HKD ⊢
  obtain ⟨la, hla⟩ : ∃ x, x = lit V ka := ⟨_, rfl⟩
  obtain ⟨lb, hlb⟩ : ∃ x, x = lit V kb := ⟨_, rfl⟩
  have HLA : Hid (∀ wx, Below w1.heap.size w1 wx → Calls Try.prog 45 #[.pointer (some ⟨e, 0, none⟩), .int .i64 (ka : Int)] wx fun ev w' => ev = .returned (.int .i64 la) ∧ Below wx.heap.size wx w') := fun wx hb => by rw [hla]; exact HLT.out ka wx hb hka.1
  have HLB : Hid (∀ wx, Below w1.heap.size w1 wx → Calls Try.prog 45 #[.pointer (some ⟨e, 0, none⟩), .int .i64 (kb : Int)] wx fun ev w' => ev = .returned (.int .i64 lb) ∧ Below wx.heap.size wx w') := fun wx hb => by rw [hlb]; exact HLT.out kb wx hb hka.2
  have hra := lit_rng hV ka
  have hrb := lit_rng hV kb
  rw [← hla] at hra
  rw [← hlb] at hrb
  rw [← hla, ← hlb]
  have hwa : IntKind.i64.wrap (-la) = -la := by rw [IntKind.wrap_i64]; omega
  have hwb : IntKind.i64.wrap (-lb) = -lb := by rw [IntKind.wrap_i64]; omega
  have hwl : IntKind.i64.wrap (-(lit V l)) = -(lit V l) := by rw [IntKind.wrap_i64]; omega
  have HLBE : Hid _ := hlb
  clear hla hlb hk hik
  have HLC : Hid (∀ wx, Below B w1 wx → Calls Try.prog 45 #[.pointer (some ⟨e, 0, none⟩), .int .i64 (kb : Int)] wx fun ev w' => ev = .returned (.int .i64 lb) ∧ Below wx.heap.size wx w') := fun wx hb => by rw [HLBE.out]; exact literal_any (hE1.kept (fun q hq => hb.block q (by rcases hq with rfl | rfl | rfl <;> assumption))) hka.2 (by have := hV ((kb / 2 : Nat) : Int); unfold w64; omega) (hV _).1
  obtain ⟨n, hn⟩ : ∃ n, n = l / 2 := ⟨_, rfl⟩
  have HN : Hid _ := hn
  obtain ⟨pv, hpv⟩ : ∃ x, x = pvT T (l / 2) := ⟨_, rfl⟩
  obtain ⟨pl, hpl⟩ : ∃ x, x = pol l := ⟨_, rfl⟩
  obtain ⟨r, hr⟩ : ∃ x, x = lit V l := ⟨_, rfl⟩
  rw [← hpv] at hlk hup
  rw [← hpl] at hup HPO
  rw [← hn] at hlk hup HND HKD
  have HLL : Hid (∀ wx, Below w1.heap.size w1 wx → Calls Try.prog 45 #[.pointer (some ⟨e, 0, none⟩), .int .i64 (l : Int)] wx fun ev w' => ev = .returned (.int .i64 r) ∧ Below wx.heap.size wx w') := fun wx hb => by rw [hr]; exact HLT.out l wx hb (by omega)
  rw [← hr] at hrl
  (try rw [← hr])
  clear hE hG hT hE1 hG1 hTn hI1 hgr hV hpv hpl hk6 hsep hn hl hr
  go_enter Try.func44, Try.ntmps44
  go_wp2_with fail
  go_region_with ((first | (go_at_call 38; refine (HND.out _).mono ?_; rintro ev wq ⟨rfl, hq⟩; rw [hq]; clear hq wq) | (go_at_call 51; refine (HPO.out _).mono ?_; rintro ev wq ⟨rfl, hq⟩; rw [hq]; clear hq wq)))
  all_goals
    clear hlk hup c3
    go_wp2_with fail
    refine (HLL.out _ (Below.refl _ _)).mono ?_
    rintro ev w2 ⟨rfl, hb2⟩
    have d2 := keep_cell hb2 d0
    have HB2 : Hid _ := hb2
    clear hb2
    go_wp2_with fail
    go_region_held3 (fun y => y.cell? ⟨e, 0, none⟩ = some (.pointer (some ⟨g, 0, none⟩)) ∧ Below w1.heap.size w1 y)
      ((first | (obtain ⟨q0, q2⟩ := ‹_ ∧ _›; with_reducible exact ⟨keep_cell hbk q0, below_step q2 hbk⟩) | exact ⟨d2, below_step HB2.out (drew_low _ _)⟩))
      ((first | (go_at_call 38; refine (HND.out _).mono ?_; rintro ev wz ⟨rfl, hq⟩; subst hq) | (go_at_call 52; have qq := ‹_ ∧ _›; refine (HKD.out _ qq.2).mono ?_; rintro ev wz ⟨rfl, hbk⟩)))
    obtain ⟨-, hb3⟩ := ‹_ ∧ _›
    have HB3 : Hid _ := hb3
    clear hb3 d2
    go_wp2_with fail
    refine (HND.out _).mono ?_
    rintro ev wz ⟨rfl, hz⟩
    rw [hz]
    clear hz wz
    have hn1 : ((n : Int) == 0) = false := by have := HN.out; simp; omega
    have hB0 : B ≤ wz.heap.size := by have := HB3.out.size; omega
    have hwr : IntKind.i64.wrap (-r) = -r := by rw [IntKind.wrap_i64]; omega
    go_wp2_with fail
    refine (HTU.out _).mono ?_
    rintro ev wt ⟨rfl, ht2⟩
    rw [ht2]
    clear ht2 wt
    go_wp2_with fail
    refine (HLA.out _ HB3.out).mono ?_
    rintro ev w4 ⟨rfl, hb4⟩
    have HB4 : Hid (Below w1.heap.size w1 w4) := below_step HB3.out hb4
    have hB1 : B ≤ w4.heap.size := by have := HB4.out.size; omega
    have hT4 := HT1.out.below HB4.out
    clear hb4
    go_wp2_with fail
    have hc1 : Cl (w4.alloc (.cells #[.int .i64 (-r), .int .i64 (la)] 3)) B (.slice (some ⟨w4.heap.size, 0, none⟩) 2 2) [-r, la] w4.heap.size := ⟨rfl, hB1, heap_alloc_new _ _⟩
    have hg1 := hT4.below ((Below.refl w4.heap.size w4).alloc (Nat.le_refl _) (.cells #[.int .i64 (-r), .int .i64 (la)] 3))
    refine (add_cl hg1 hc1 (by have := (hT4).lt; omega) (fun e => by have := ((hT4).row.lt _ e).2; omega) (by omega) (by rw [size_alloc']; omega)).mono ?_
    rintro ev w5 ⟨rfl, ⟨v5, us5, hT5⟩, hb5⟩
    have HT5 : Hid (Gt w5 B b v5 us5 (C ++ [[-r, la]])) := hT5
    have HB5 : Hid (Below B w1 w5) := (HB4.out.mono (by omega)).trans ((((Below.refl _ _).alloc (Nat.le_refl _) _).mono hB1).trans hb5)
    have HL5 : Hid (Calls Try.prog 45 #[.pointer (some ⟨e, 0, none⟩), .int .i64 (kb : Int)] w5 fun ev w' => ev = .returned (.int .i64 lb) ∧ Below w5.heap.size w5 w') := HLC.out w5 HB5.out
    have hB5s : B ≤ w5.heap.size := by have := HB5.out.size; omega
    clear hT5 hb5 hc1 hg1 hT4
    go_wp2_with fail
    refine HL5.out.mono ?_
    rintro ev w6 ⟨rfl, hb6⟩
    have HT6 : Hid (Gt w6 B b v5 us5 (C ++ [[-r, la]])) := HT5.out.below hb6
    have HB6 : Hid (Below B w1 w6) := HB5.out.trans (hb6.mono hB5s)
    have hB2 : B ≤ w6.heap.size := by have := HB6.out.size; omega
    clear hb6 HL5
    go_wp2_with fail
    have hc2 : Cl (w6.alloc (.cells #[.int .i64 (-r), .int .i64 (lb)] 3)) B (.slice (some ⟨w6.heap.size, 0, none⟩) 2 2) [-r, lb] w6.heap.size := ⟨rfl, hB2, heap_alloc_new _ _⟩
    have hg2 := HT6.out.below ((Below.refl w6.heap.size w6).alloc (Nat.le_refl _) (.cells #[.int .i64 (-r), .int .i64 (lb)] 3))
    refine (add_cl hg2 hc2 (by have := (HT6.out).lt; omega) (fun e => by have := ((HT6.out).row.lt _ e).2; omega) (by rw [List.length_append]; simp; omega) (by rw [size_alloc']; omega)).mono ?_
    rintro ev w7 ⟨rfl, ⟨v', us', hT7⟩, hb7⟩
    have HT7 : Hid (Gt w7 B b v' us' (C ++ [[-r, la]] ++ [[-r, lb]])) := hT7
    have HB7 : Hid (Below B w1 w7) := HB6.out.trans ((((Below.refl _ _).alloc (Nat.le_refl _) _).mono hB2).trans hb7)
    clear hT7 hb7 hc2 hg2
    go_wp2_with fail
    go_end0
    obtain ⟨f1, f2, f3⟩ := HFI.out w7 HB7.out
    exact ⟨by first | rfl | trivial, f1, f2, ⟨v', us', by have := HT7.out; rw [List.append_assoc] at this; exact this⟩, f3⟩
set_option maxRecDepth 20000 in
set_option maxHeartbeats 25600000 in
theorem tell_i {w : World} {F : Nat → Prop} {B b e g mo mv mp l : Nat} {ks : List Kd} {vars : Int} {V : Int → Option Int} {T : List Nat} {v : Value} {us : List Value} {C : List (List Int)}
    (hE : En w e g vars mv mp V (polF T)) (hG : Gr w F g mo ks) (hF : ∀ k, F k → k < B ∧ k ≠ mp) (hT : Gt w B b v us C) (heB : e < B) (hvB : mv < B) (hpB : mp < B) (hBw : B ≤ w.heap.size)
    (hl : l ∉ T) (hll : l / 2 < ks.length) (hks : ks.length ≤ 40000) (hV : ∀ n, 0 ≤ (V n).getD 0 ∧ (V n).getD 0 ≤ 1000000) (hC : C.length ≤ 90000) {k : Kd} (hn0 : ¬ l / 2 = 0) (hk : ks[l / 2]? = some k) (hik : isK k = false) :
    Calls Try.prog 44 #[.pointer (some ⟨e, 0, none⟩), .pointer (some ⟨b, 0, none⟩), .int .i64 (l : Int)] w fun ev w' => ev = .returned (.tuple #[]) ∧ En w' e g vars mv mp V (polF (T ++ [l])) ∧ Gr w' F g mo ks ∧ (∃ v' us', Gt w' B b v' us' (C ++ [])) ∧ Tn w w' (fun q => q = mp ∨ B ≤ q) := by
  have HND : Hid (∀ wx, Calls Try.prog 38 #[.int .i64 (l : Int)] wx fun e w' => e = .returned (.int .i64 ((l / 2 : Nat) : Int)) ∧ w' = wx) := fun wx => cnode_any l wx
  have HPO : Hid (∀ wx, Calls Try.prog 51 #[.int .i64 (l : Int)] wx fun e w' => e = .returned (.int .i64 (pol l)) ∧ w' = wx) := fun wx => polarity_any (by omega) wx
  have HTU : Hid (∀ wx, Calls Try.prog 53 #[.int .i64 (l : Int)] wx fun e w' => e = .returned (.int .i64 ((l % 2 : Nat) : Int)) ∧ w' = wx) := fun wx => turned_any (by omega) wx
  have c3 := cell_of hE.hd 3 rfl
  have hk6 : w64 ((l / 2 : Nat) : Int) := by unfold w64; omega
  have hlk := (hE.ps.kept (w' := w.drew) rfl).look hk6
  rw [polF_get] at hlk
  obtain ⟨w1, hup, hI1, hgr, hsz⟩ := (hE.ps.kept (w' := w.drew) rfl).put hk6 (bits .or .i64 (pvT T (l / 2)) (pol l))
  rw [polF_snoc hl] at hI1
  have hsep := hE.sep
  have hE1 : En w1 e g vars mv mp V (polF (T ++ [l])) := ⟨(hgr.block e hE.lt (fun q => hsep.2 (by injection q))).trans hE.hd, hE.vs.kept (hgr.block mv hE.vs.lt (fun q => hE.ne (by injection q))), hI1, hE.ne⟩
  have hG1 : Gr w1 F g mo ks := hG.kept (fun k hk hf => hgr.block k hk (fun q => (hF k hf).2 (by injection q)))
  have hTn : Tn w w1 (fun q => q = mp ∨ B ≤ q) := ⟨hgr.os, hgr.tape, hgr.output, hgr.size, fun q hq hn => hgr.block q hq (fun e => hn (Or.inl (by injection e)))⟩
  have HT1 : Hid (Gt w1 B b v us C) := hT.kept hgr.size (fun q hq hB => hgr.block q hq (fun e => by injection e with e; omega))
  have hsz1 : w1.heap.size = w.heap.size := hsz
  have HFI : Hid (∀ wx, Below B w1 wx → En wx e g vars mv mp V (polF (T ++ [l])) ∧ Gr wx F g mo ks ∧ Tn w wx (fun q => q = mp ∨ B ≤ q)) := fun wx hb =>
    ⟨hE1.kept (fun q hq => hb.block q (by rcases hq with rfl | rfl | rfl <;> assumption)), hG1.kept (fun k _ hf => hb.block k (hF k hf).1), hTn.trans ⟨hb.os, hb.tape, hb.output, hb.size, fun q _ hn => hb.block q (by have := fun h => hn (Or.inr h); omega)⟩⟩
  have HG1 : Hid _ := hG1
  have HLT : Hid (∀ (x : Nat) wx, Below w1.heap.size w1 wx → x < 1000000 → Calls Try.prog 45 #[.pointer (some ⟨e, 0, none⟩), .int .i64 (x : Int)] wx fun ev w' => ev = .returned (.int .i64 (lit V x)) ∧ Below wx.heap.size wx w') := fun x wx hb hx => literal_any (hE1.below hb) hx (by have := hV ((x / 2 : Nat) : Int); unfold w64; omega) (hV _).1
  have hel := hE.lt
  have hrl := lit_rng hV l
  have d0 : w1.cell? ⟨e, 0, none⟩ = some (.pointer (some ⟨g, 0, none⟩)) := cell_of hE1.hd 0 rfl
  have HKD : Hid (∀ wx, Below w1.heap.size w1 wx → Calls Try.prog 52 #[.pointer (some ⟨g, 0, none⟩), .int .i64 ((l / 2 : Nat) : Int)] wx fun ev w' => ev = .returned (.tuple #[.int .i64 (k.1 : Int), .int .i64 (k.2 : Int), .bool false]) ∧ Below wx.heap.size wx w') := fun wx hb => by
    have h1 := kids_any (hG1.below hb) ((l / 2 : Nat) : Int)
    rw [show kidF ks ((l / 2 : Nat) : Int) = ((k.1 : Int), (k.2 : Int), false) by unfold kidF; rw [if_pos (by omega), Int.toNat_natCast, hk]; simp only [hik]] at h1
    exact h1
  obtain ⟨ka, kb⟩ := k
  dsimp only at HKD
  clear hk hik
  obtain ⟨n, hn⟩ : ∃ n, n = l / 2 := ⟨_, rfl⟩
  have HN : Hid _ := hn
  obtain ⟨pv, hpv⟩ : ∃ x, x = pvT T (l / 2) := ⟨_, rfl⟩
  obtain ⟨pl, hpl⟩ : ∃ x, x = pol l := ⟨_, rfl⟩
  obtain ⟨r, hr⟩ : ∃ x, x = lit V l := ⟨_, rfl⟩
  rw [← hpv] at hlk hup
  rw [← hpl] at hup HPO
  rw [← hn] at hlk hup HND HKD
  have HLL : Hid (∀ wx, Below w1.heap.size w1 wx → Calls Try.prog 45 #[.pointer (some ⟨e, 0, none⟩), .int .i64 (l : Int)] wx fun ev w' => ev = .returned (.int .i64 r) ∧ Below wx.heap.size wx w') := fun wx hb => by rw [hr]; exact HLT.out l wx hb (by omega)
  rw [← hr] at hrl
  (try rw [← hr])
  clear hE hG hT hE1 hG1 hTn hI1 hgr hV hpv hpl hk6 hsep hn hl hr
  go_enter Try.func44, Try.ntmps44
  go_wp2_with fail
  go_region_with ((first | (go_at_call 38; refine (HND.out _).mono ?_; rintro ev wq ⟨rfl, hq⟩; rw [hq]; clear hq wq) | (go_at_call 51; refine (HPO.out _).mono ?_; rintro ev wq ⟨rfl, hq⟩; rw [hq]; clear hq wq)))
  all_goals
    clear hlk hup c3
    go_wp2_with fail
    refine (HLL.out _ (Below.refl _ _)).mono ?_
    rintro ev w2 ⟨rfl, hb2⟩
    have d2 := keep_cell hb2 d0
    have HB2 : Hid _ := hb2
    clear hb2
    go_wp2_with fail
    go_region_held3 (fun y => y.cell? ⟨e, 0, none⟩ = some (.pointer (some ⟨g, 0, none⟩)) ∧ Below w1.heap.size w1 y)
      ((first | (obtain ⟨q0, q2⟩ := ‹_ ∧ _›; with_reducible exact ⟨keep_cell hbk q0, below_step q2 hbk⟩) | exact ⟨d2, below_step HB2.out (drew_low _ _)⟩))
      ((first | (go_at_call 38; refine (HND.out _).mono ?_; rintro ev wz ⟨rfl, hq⟩; subst hq) | (go_at_call 52; have qq := ‹_ ∧ _›; refine (HKD.out _ qq.2).mono ?_; rintro ev wz ⟨rfl, hbk⟩)))
    obtain ⟨-, hb3⟩ := ‹_ ∧ _›
    have HB3 : Hid _ := hb3
    clear hb3 d2
    go_wp2_with fail
    refine (HND.out _).mono ?_
    rintro ev wz ⟨rfl, hz⟩
    rw [hz]
    clear hz wz
    have hn1 : ((n : Int) == 0) = false := by have := HN.out; simp; omega
    have hB0 : B ≤ wz.heap.size := by have := HB3.out.size; omega
    go_wp2_with fail
    go_end0
    obtain ⟨f1, f2, f3⟩ := HFI.out wz (HB3.out.mono (by omega))
    exact ⟨by first | rfl | trivial, f1, f2, ⟨v, us, by rw [List.append_nil]; exact HT1.out.below HB3.out⟩, f3⟩
end Go.Proofs.Ytajpnlmglkifcaa
