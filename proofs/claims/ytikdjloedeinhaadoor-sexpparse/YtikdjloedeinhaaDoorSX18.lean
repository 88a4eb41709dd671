/- SexpDepth: brackets may stand just so deep. -/
import Derived.Test.YtikdjloedeinhaaDoorSX17
import Derived.Lib.MinMax
namespace Go.Proofs.YtikdjloedeinhaaDoor
open Go.RowKit
set_option linter.unusedSimpArgs false
set_option linter.unusedVariables false

theorem place_emod {k n : Int} (hn : 0 < n) : k % n = if k.tmod n < 0 then k.tmod n + n else k.tmod n := by
  rw [Int.tmod_eq_emod]
  have h1 := Int.emod_nonneg k (by omega : n ≠ 0)
  have h2 := Int.emod_lt_of_pos k hn
  have e : (n.natAbs : Int) = n := by omega
  split
  · rw [if_neg (by omega)]; omega
  · next hq =>
    have : ¬ n ∣ k := fun h => hq (Or.inr h)
    have h3 : k % n ≠ 0 := fun h => this (Int.dvd_of_emod_eq_zero h)
    rw [if_pos (by omega)]; omega
theorem tmod_rng {k n : Int} (hn : 0 < n) : -n ≤ k.tmod n ∧ k.tmod n < n := by
  have h1 := place_emod (k := k) hn
  have h2 := Int.emod_nonneg k (by omega : n ≠ 0)
  have h3 := Int.emod_lt_of_pos k hn
  split at h1 <;> omega
set_option maxHeartbeats 1600000 in
theorem place_any {k n : Int} (hn : 0 < n) (hn2 : n ≤ 1000000000) (w : World) :
    Calls Tryd.prog 23 #[.int .i64 k, .int .i64 n] w fun e w' => e = .returned (.int .i64 (k % n)) ∧ w' = w := by
  have hp := place_emod (k := k) hn
  obtain ⟨r1, r2⟩ := tmod_rng (k := k) hn
  obtain ⟨T, hT⟩ : ∃ T, T = k.tmod n := ⟨_, rfl⟩
  obtain ⟨R, hR⟩ : ∃ R, R = k % n := ⟨_, rfl⟩
  rw [← hR]
  rw [← hT, ← hR] at hp
  rw [← hT] at r1 r2
  have z : ¬ n = 0 := by omega
  have eT : k.tmod n = T := hT.symm
  have eW : IntKind.i64.wrap T = T := by rw [IntKind.wrap_i64]; omega
  by_cases hneg : T < 0
  · rw [if_pos hneg] at hp
    have HR : Hid _ := hp
    clear hp hT hR
    go_enter Tryd.func23, Tryd.ntmps23
    go_wp2_with fail
    go_ret
    exact ⟨by rw [HR.out]; rfl, rfl⟩
  · rw [if_neg hneg] at hp
    have HR : Hid _ := hp
    clear hp hT hR
    go_enter Tryd.func23, Tryd.ntmps23
    go_wp2_with fail
    go_ret
    exact ⟨by rw [HR.out]; rfl, rfl⟩


/-- What reading one text makes of told's numbers. -/
theorem told_any {B : Nat} {w : World} {v er : Value} {r : List Sx × Nat × Nat} (hg : Gl w) (h : PR B w v er r) :
    Calls Tryd.prog 12 #[er] w fun ev w' => ev = .returned (.tuple #[.int .i64 (r.2.1 : Int), .int .i64 (r.2.2 : Int)]) ∧ Below w.heap.size w w' := by
  rcases h with ⟨h1, h2, rfl, -⟩ | ⟨-, -, -, -, b, rfl, h5, -⟩
  · rw [h1, h2]
    exact (told_nil w).mono (fun e w' hh => ⟨hh.1, by rw [hh.2]; exact Below.refl _ _⟩)
  · exact told_err hg h5
/-- m brackets are open, nothing lies in them. -/
def stD : Nat → Stk
  | 0 => [(0, [])]
  | m + 1 => (m, []) :: stD m
theorem stN_open (p : Nat) (st : Stk) : stN p st 40 = if st.length = 201 then ⟨p + 1, st, .err p 23⟩ else ⟨p + 1, (p, []) :: st, .no⟩ := by
  unfold stN
  rw [if_neg (by decide), if_neg (by decide), if_pos rfl]
theorem stD_len : ∀ m, (stD m).length = m + 1
  | 0 => rfl
  | m + 1 => by rw [stD, List.length_cons, stD_len m]
theorem rd_open : ∀ (m : Nat), m ≤ 200 → rd s0 (List.replicate m 40) = ⟨m, stD m, .no⟩
  | 0, _ => rfl
  | m + 1, h => by
    rw [List.replicate_succ', rd, List.foldl_append]
    show stA (rd s0 (List.replicate m 40)) 40 = _
    rw [rd_open m (by omega)]
    show stN m (stD m) 40 = _
    rw [stN_open, stD_len, if_neg (by omega)]
    rfl
theorem rd_err (p e : Nat) (st : Stk) : ∀ (l : List UInt8) (k : Nat), ∃ k', rd ⟨k, st, .err p e⟩ l = ⟨k', st, .err p e⟩
  | [], k => ⟨k, rfl⟩
  | c :: l, k => rd_err p e st l (k + 1)
theorem rd_app (s : Ps) (l m : List UInt8) : rd s (l ++ m) = rd (rd s l) m := List.foldl_append
/-- Lists within lists. -/
def nst : Nat → Sx
  | 0 => .mk ⟨#[]⟩ true []
  | j + 1 => .mk ⟨#[]⟩ true [nst j]
theorem rd_close : ∀ (j m k : Nat), j < m → ∃ k', rd ⟨k, stD m, .no⟩ (List.replicate (j + 1) 41) = ⟨k', addS (nst j) (stD (m - (j + 1))), .no⟩
  | 0, m, k, h => by
    obtain ⟨m, rfl⟩ : ∃ n, m = n + 1 := ⟨m - 1, by omega⟩
    refine ⟨k + 1, ?_⟩
    show stA ⟨k, stD (m + 1), .no⟩ 41 = _
    simp only [stA]
    rw [stN_close, stD]
    cases m with
    | zero => rfl
    | succ m => rfl
  | j + 1, m, k, h => by
    obtain ⟨k', hk⟩ := rd_close j m k (by omega)
    refine ⟨k' + 1, ?_⟩
    rw [List.replicate_succ', rd, List.foldl_append]
    show stA (rd ⟨k, stD m, .no⟩ (List.replicate (j + 1) 41)) 41 = _
    rw [hk]
    obtain ⟨n, hn⟩ : ∃ n, m - (j + 1) = n + 1 := ⟨m - (j + 1) - 1, by omega⟩
    rw [hn, show m - (j + 1 + 1) = n by omega]
    simp only [stA]
    rw [stN_close, stD]
    cases n with
    | zero => rfl
    | succ n => rfl
def opn (n : Nat) : ByteArray := ⟨(List.replicate n (40 : UInt8)).toArray⟩
def bal (n j : Nat) : ByteArray := ⟨(List.replicate n (40 : UInt8) ++ List.replicate j (41 : UInt8)).toArray⟩
theorem opn_pars {n : Nat} (h : n ≤ 200) : pars (opn n) = if n = 0 then ([], 0, 0) else ([], n - 1, 20) := by
  unfold pars
  have hs : (opn n).size = n := by show (List.replicate n 40).toArray.size = n; simp
  have hl : (opn n).data.toList = List.replicate n 40 := by show (List.replicate n (40 : UInt8)).toArray.toList = _; simp
  rw [if_neg (by rw [hs]; omega), hl, rd_open n h]
  cases n with
  | zero => rfl
  | succ m =>
    rw [if_neg (by omega)]
    show finS (stD (m + 1)) = _
    cases m with
    | zero => rfl
    | succ m => rfl
theorem bal_pars {n : Nat} (h : n ≤ 400) : pars (bal n n) = if 200 < n then ([], 200, 23) else if n = 0 then ([], 0, 0) else ([nst (n - 1)], 0, 0) := by
  unfold pars
  have hs : (bal n n).size = n + n := by show (List.replicate n (40 : UInt8) ++ List.replicate n 41).toArray.size = n + n; simp
  have hl : (bal n n).data.toList = List.replicate n 40 ++ List.replicate n 41 := by show (List.replicate n (40 : UInt8) ++ List.replicate n 41).toArray.toList = _; simp
  rw [if_neg (by rw [hs]; omega), hl]
  by_cases hn : 200 < n
  · rw [if_pos hn]
    obtain ⟨M, hM⟩ : ∃ M, M = 200 := ⟨_, rfl⟩
    obtain ⟨d, rfl⟩ : ∃ d, n = M + (d + 1) := ⟨n - 201, by omega⟩
    rw [← hM, ← List.replicate_append_replicate, List.append_assoc, rd_app, rd_open M (by omega), List.replicate_succ, List.cons_append]
    have e : ∀ l, rd ⟨M, stD M, .no⟩ ((40 : UInt8) :: l) = rd ⟨M + 1, stD M, .err M 23⟩ l := fun l => by
      show rd (stN M (stD M) 40) l = _
      rw [stN_open, stD_len, if_pos (by omega)]
    rw [e]
    obtain ⟨k', hk⟩ := rd_err M 23 (stD M) (List.replicate d 40 ++ List.replicate (M + (d + 1)) 41) (M + 1)
    rw [hk]; rfl
  · rw [if_neg hn]
    cases n with
    | zero => rfl
    | succ m =>
      rw [if_neg (by omega), rd_app, rd_open _ (by omega)]
      obtain ⟨k', hk⟩ := rd_close m (m + 1) (m + 1) (by omega)
      rw [hk, show m + 1 - (m + 1) = 0 by omega]
      rfl
theorem opn_put (n : Nat) : (opn n) ++ (⟨#[40]⟩ : ByteArray) = opn (n + 1) := by
  apply ByteArray.ext
  rw [ByteArray.data_append]
  show (List.replicate n (40 : UInt8)).toArray ++ #[40] = (List.replicate (n + 1) (40 : UInt8)).toArray
  apply Array.ext'
  rw [List.replicate_succ']; simp
theorem bal_put (n j : Nat) : (bal n j) ++ (⟨#[41]⟩ : ByteArray) = bal n (j + 1) := by
  apply ByteArray.ext
  rw [ByteArray.data_append]
  show (List.replicate n (40 : UInt8) ++ List.replicate j 41).toArray ++ #[41] = (List.replicate n (40 : UInt8) ++ List.replicate (j + 1) 41).toArray
  apply Array.ext'
  rw [List.replicate_succ']; simp
theorem bal_0 (n : Nat) : bal n 0 = opn n := by unfold bal opn; simp
theorem opn_size (n : Nat) : (opn n).size = n := by show (List.replicate n (40 : UInt8)).toArray.size = n; simp
theorem bal_size (n j : Nat) : (bal n j).size = n + j := by show (List.replicate n (40 : UInt8) ++ List.replicate j 41).toArray.size = n + j; simp

set_option maxRecDepth 20000 in
set_option maxHeartbeats 12800000 in
theorem walk_depth (n0 : Int) {w : World} (hg : Gl w) : Calls Tryd.prog 7 #[.int .i64 n0] w fun e w' => e = .returned (.bool true) ∧ Below w.heap.size w w' := by
  have HGL : Hid (Gl w) := hg
  have HKN : Hid _ := known_any hg
  obtain ⟨n, hn, hn4⟩ : ∃ n : Nat, (n : Int) = n0 % 400 ∧ n < 400 := ⟨(n0 % 400).toNat, by omega, by omega⟩
  have HPL : Hid (∀ wx, Calls Tryd.prog 23 #[.int .i64 n0, .int .i64 400] wx fun e w' => e = .returned (.int .i64 (n : Int)) ∧ w' = wx) := fun wx => by rw [hn]; exact place_any (by decide) (by decide) wx
  have HBP : Hid _ := bal_pars (n := n) (by omega)
  have HOP : Hid (n ≤ 200 → _) := fun h => opn_pars (n := n) h
  clear hn hg
  go_enter Tryd.func7, Tryd.ntmps7
  go_wp2_with fail
  refine Calls.mono HKN.out ?_
  rintro e w1 ⟨rfl, hb1⟩
  have HB1 : Hid _ := hb1
  clear hb1 HKN
  go_wp2_with fail
  refine Calls.mono (HPL.out _) ?_
  rintro e w1' ⟨rfl, hw⟩
  rw [hw]
  clear hw w1' HPL
  go_wp2_with fail
  go_loopw [3, 4] (fun s i wr => ∃ k : Nat, k ≤ n ∧ s = .string (opn k) ∧ i = .int .i64 (k : Int) ∧ wr = w1) (fun s i wr => n - (intOf i).toNat)
  case atStart => exact ⟨0, Nat.zero_le _, rfl, rfl, rfl⟩
  case round =>
    obtain ⟨k, hk, rfl, rfl, rfl⟩ := hrel
    by_cases hlt : k < n
    · have hltI : (k : Int) < (n : Int) := by omega
      have hsz : ¬ (9223372036854775807 < (opn k).size + 1) := by rw [opn_size]; omega
      go_wp2_with fail
      exact ⟨⟨k + 1, by omega, by rw [opn_put], rfl, trivial⟩, by simp [intOf]; omega⟩
    · obtain rfl : k = n := by omega
      rw [← bal_0]
      go_wp2_with fail
      go_loopw [3, 6] (fun s i wv => ∃ j : Nat, j ≤ k ∧ s = .string (bal k j) ∧ i = .int .i64 (j : Int) ∧ wv = wr) (fun s i wv => k - (intOf i).toNat)
      case atStart => exact ⟨0, Nat.zero_le _, rfl, rfl, rfl⟩
      case round =>
        obtain ⟨j, hj, rfl, rfl, rfl⟩ := hrel
        by_cases hlj : j < k
        · have hljI : (j : Int) < (k : Int) := by omega
          have hsz : ¬ (9223372036854775807 < (bal k j).size + 1) := by rw [bal_size]; omega
          go_wp2_with fail
          exact ⟨⟨j + 1, by omega, by rw [bal_put], rfl, trivial⟩, by simp [intOf]; omega⟩
        · obtain rfl : j = k := by omega
          have HTE : Hid (∀ (wx : World) (b a e : Nat), Below w.heap.size w wx → wx.heap[b]? = some (.cells #[.int .i64 (a : Int), .int .i64 (e : Int)] 66 (0, 0)) → Calls Tryd.prog 12 #[.iface 62 (.pointer (some ⟨b, 0, none⟩))] wx fun ev w' => ev = .returned (.tuple #[.int .i64 (a : Int), .int .i64 (e : Int)]) ∧ Below wx.heap.size wx w') := fun wx b a e hb h => told_err (HGL.out.below hb) h
          have hsw := HB1.out.size
          by_cases h200 : 200 < j
          · have h2I : (200 : Int) < (j : Int) := by omega
            have hp := HBP.out
            rw [if_pos h200] at hp
            have HP : Hid _ := hp
            clear hlj hlt hp
            go_wp2_with fail
            refine Calls.mono (parse_no HP.out (by decide) _) ?_
            rintro e w2 ⟨b, rfl, he, hb2⟩
            have HB2 : Hid (Below w.heap.size w w2) := HB1.out.trans (hb2.mono hsw)
            have HT : Hid (Calls Tryd.prog 12 #[.iface 62 (.pointer (some ⟨b, 0, none⟩))] w2 fun ev w' => ev = .returned (.tuple #[.int .i64 200, .int .i64 23]) ∧ Below w2.heap.size w2 w') := HTE.out w2 b 200 23 HB2.out he
            clear he hb2
            go_wp2_with fail
            refine Calls.mono HT.out ?_
            rintro e w3 ⟨rfl, hb3⟩
            go_wp2_with fail
            go_ret
            exact ⟨rfl, HB2.out.trans (hb3.mono HB2.out.size)⟩
          · have h2I : (j : Int) ≤ 200 := by omega
            have hp := HBP.out
            rw [if_neg h200] at hp
            have ho := HOP.out (by omega)
            by_cases h0 : j = 0
            · subst h0
              rw [if_pos rfl] at hp ho
              have HP : Hid _ := hp
              have HO : Hid (pars (bal 0 0) = ([], 0, 0)) := hp
              have hmn : min (0 : Int) 1 = 0 := by omega
              clear hlj hlt hp ho h200
              go_wp2_with fail
              refine Calls.mono (parse_ok HP.out _) ?_
              rintro e w2 ⟨v, rfl, ⟨D, hR, -⟩, hb2⟩
              obtain ⟨a, c, rfl, -⟩ := row_get hR
              have HB2 : Hid (Below w.heap.size w w2) := HB1.out.trans (hb2.mono hsw)
              clear hb2 hR
              go_wp2_with fail
              refine Calls.mono (told_nil _) ?_
              rintro e w2' ⟨rfl, hw2⟩
              rw [hw2]
              clear hw2 w2'
              go_wp2_with fail
              refine Calls.mono (parse_ok HO.out _) ?_
              rintro e w3 ⟨v3, rfl, ⟨D3, hR3, -⟩, hb3⟩
              obtain ⟨a3, c3, rfl, -⟩ := row_get hR3
              have HB3 : Hid (Below w.heap.size w w3) := HB2.out.trans (hb3.mono HB2.out.size)
              clear hb3 hR3
              go_wp2_with fail
              refine Calls.mono (told_nil _) ?_
              rintro e w3' ⟨rfl, hw3⟩
              rw [hw3]
              clear hw3 w3'
              go_wp2_with fail
              go_ret
              exact ⟨rfl, HB3.out⟩
            · rw [if_neg h0] at hp ho
              rw [← bal_0] at ho
              have HP : Hid _ := hp
              have HO : Hid (pars (bal j 0) = ([], j - 1, 20)) := ho
              have h1I : (1 : Int) ≤ (j : Int) := by omega
              have hj1 : ((j - 1 : Nat) : Int) = (j : Int) - 1 := by omega
              have hmn : min (j : Int) 1 = 1 := by omega
              have hz : ((j : Int) == 0) = false := by simp; omega
              clear hlj hlt hp ho h200
              go_wp2_with fail
              refine Calls.mono (parse_ok HP.out _) ?_
              rintro e w2 ⟨v, rfl, ⟨D, hR, -⟩, hb2⟩
              obtain ⟨a, c, rfl, -⟩ := row_get hR
              have HB2 : Hid (Below w.heap.size w w2) := HB1.out.trans (hb2.mono hsw)
              clear hb2 hR
              go_wp2_with fail
              refine Calls.mono (told_nil _) ?_
              rintro e w2' ⟨rfl, hw2⟩
              rw [hw2]
              clear hw2 w2'
              go_wp2_with fail
              refine Calls.mono (parse_no HO.out (by decide) _) ?_
              rintro e w3 ⟨b, rfl, he, hb3⟩
              have HB3 : Hid (Below w.heap.size w w3) := HB2.out.trans (hb3.mono HB2.out.size)
              have HT : Hid (Calls Tryd.prog 12 #[.iface 62 (.pointer (some ⟨b, 0, none⟩))] w3 fun ev w' => ev = .returned (.tuple #[.int .i64 ((j : Int) - 1), .int .i64 20]) ∧ Below w3.heap.size w3 w') := by rw [← hj1]; exact HTE.out w3 b (j - 1) 20 HB3.out he
              clear he hb3 hj1
              go_wp2_with fail
              refine Calls.mono HT.out ?_
              rintro e w4 ⟨rfl, hb4⟩
              go_wp2_with fail
              go_ret
              exact ⟨rfl, HB3.out.trans (hb4.mono HB3.out.size)⟩
end Go.Proofs.YtikdjloedeinhaaDoor
