import Derived.Test.YtedldoobmmhloaaMg8
namespace Go.Proofs.Ytedldoobmmhloaa
set_option maxHeartbeats 12800000
set_option maxRecDepth 100000
open Go.RowKit
set_option linter.unusedSimpArgs false
set_option linter.unusedVariables false
theorem cell_of {w : World} {g : Nat} {cs : Array Value} {t : TypeId} {f : Nat × Nat} (h : w.heap[g]? = some (.cells cs t f)) (j : Nat) {v : Value} (hv : cs[j]? = some v) : w.cell? ⟨g, j, none⟩ = some v := by
 simp [World.cell?, h, hv]
theorem Gr.c0 {w : World} {B g mi mv mo : Nat} {v : Value} {ns : List Nd} (h : Gr w B g mi mv v mo ns) : w.cell? ⟨g, 0, none⟩ = some (.int .i64 (mo : Int)) := cell_of h.hd 0 rfl
theorem Gr.c1 {w : World} {B g mi mv mo : Nat} {v : Value} {ns : List Nd} (h : Gr w B g mi mv v mo ns) : w.cell? ⟨g, 1, none⟩ = some v := cell_of h.hd 1 rfl
theorem Gr.c2 {w : World} {B g mi mv mo : Nat} {v : Value} {ns : List Nd} (h : Gr w B g mi mv v mo ns) : w.cell? ⟨g, 2, none⟩ = some (.map (some mi)) := cell_of h.hd 2 rfl
theorem Gr.c3 {w : World} {B g mi mv mo : Nat} {v : Value} {ns : List Nd} (h : Gr w B g mi mv v mo ns) : w.cell? ⟨g, 3, none⟩ = some (.map (some mv)) := cell_of h.hd 3 rfl
theorem Gr.sl {w : World} {B g mi mv mo : Nat} {v : Value} {ns : List Nd} (h : Gr w B g mi mv v mo ns) : ∃ ad cap, v = .slice ad ns.length cap := by
 rcases h.row.2 with ⟨hv, hn⟩ | ⟨r, cap, cur, hv, _⟩
 ·exact ⟨none, 0, by rw [hv, hn]⟩
 ·exact ⟨_, cap, hv⟩
theorem Gr.len {w : World} {B g mi mv mo : Nat} {v : Value} {ns : List Nd} (h : Gr w B g mi mv v mo ns) : ns.length ≤ 4096 := Nat.le_trans h.room h.most
theorem row_at {w : World} {B mo : Nat} {v : Value} {ns : List Nd} {i : Nat} {n : Nd} (h : w.ownsRow B 43 11 v ns.length (ns.flatMap Nd.cs)) (hi : ns[i]? = some n) :
  ∃ r cap, v = .slice (some ⟨r, 0, none⟩) ns.length cap ∧ B ≤ r ∧ (∃ cur, w.heap[r]? = some (.cells cur 43)) ∧ ∀ j u, n.cs[j]? = some u → w.cell? ⟨r, i * 11 + j, none⟩ = some u := by
 have hlt : i < ns.length := (List.getElem?_eq_some_iff.1 hi).1
 rcases h.2 with ⟨hv, hn⟩ | ⟨r, cap, cur, hv, hb, hg, _, _, hs, ht⟩
 ·omega
 ·refine ⟨r, cap, hv, hb, ⟨cur, hg⟩, fun j u hj => ?_⟩
  have hj11 : j < 11 := (List.getElem?_eq_some_iff.1 hj).1
  have e : (ns.flatMap Nd.cs)[i * 11 + j]? = some u := by rw [css_at hi j hj11]; exact hj
  rw [← ht, List.getElem?_take_of_lt (by omega)] at e
  exact cell_of hg _ (by simpa using e)
theorem has_any {w : World} {B g mi mv mo : Nat} {v : Value} {ns : List Nd} (h : Gr w B g mi mv v mo ns) (i : Int) :
  Calls Try.prog 29 #[.pointer (some ⟨g, 0, none⟩), .int .i64 i] w fun e w' => e = .returned (.bool (hasB ns.length i)) ∧ w' = w := by
 have c1 := h.c1
 obtain ⟨ad, cap, rfl⟩ := h.sl
 obtain ⟨N, hN⟩ : ∃ N, N = ns.length := ⟨_, rfl⟩
 rw [← hN] at c1 ⊢
 clear h hN
 by_cases h1 : 1 ≤ i
 ·obtain ⟨r, hr⟩ : ∃ r, r = hasB N i := ⟨_, rfl⟩
  rw [← hr]
  have HR : Hid _ := hr
  clear hr
  go_enter Try.func29, Try.ntmps29
  go_wp2_with fail
  go_ret
  exact ⟨by rw [HR.out]; simp [hasB, h1], rfl⟩
 ·have e : hasB N i = false := by simp [hasB, h1]
  rw [e]
  go_enter Try.func29, Try.ntmps29
  go_wp2_with fail
  go_ret
  exact ⟨rfl, rfl⟩
theorem row_kept {w w' : World} {B : Nat} {e : TypeId} {sz : Nat} {v : Value} {n : Nat} {xs : List Value} (h : w.ownsRow B e sz v n xs) (hk : ∀ k, k < w.heap.size → w'.heap[k]? = w.heap[k]?) : w'.ownsRow B e sz v n xs := by
 refine ⟨h.1, ?_⟩
 rcases h.2 with hn | ⟨g, cap, cur, rfl, hb, hgg, rest⟩
 ·exact .inl hn
 ·exact .inr ⟨g, cap, cur, rfl, hb, by rw [hk g (Array.getElem?_eq_some_iff.1 hgg).1]; exact hgg, rest⟩
theorem Gr.lt {w : World} {B g mi mv mo : Nat} {v : Value} {ns : List Nd} (h : Gr w B g mi mv v mo ns) : g < w.heap.size := (Array.getElem?_eq_some_iff.1 h.hd).1
theorem Gr.kept {w w' : World} {B g mi mv mo : Nat} {v : Value} {ns : List Nd} (h : Gr w B g mi mv v mo ns) (hk : ∀ k, k < w.heap.size → w'.heap[k]? = w.heap[k]?) : Gr w' B g mi mv v mo ns :=
 ⟨(hk g h.lt).trans h.hd, row_kept h.row hk, h.ids.kept (hk mi h.ids.lt), h.vars.kept (hk mv h.vars.lt), h.bg, h.bi, h.bv, h.ne, h.most, h.room, h.inv⟩
theorem Gr.below {w w' : World} {B g mi mv mo : Nat} {v : Value} {ns : List Nd} (h : Gr w B g mi mv v mo ns) (hb : Below w.heap.size w w') : Gr w' B g mi mv v mo ns := h.kept hb.block
theorem Gr.alloc {w : World} {B g mi mv mo : Nat} {v : Value} {ns : List Nd} (h : Gr w B g mi mv v mo ns) (o : Obj) : Gr (w.alloc o) B g mi mv v mo ns := h.kept fun k hk => heap_alloc_old w _ hk
theorem node_no {w : World} {B g mi mv mo : Nat} {v : Value} {ns : List Nd} (h : Gr w B g mi mv v mo ns) {i : Int} (hi : hasB ns.length i = false) :
  Calls Try.prog 18 #[.pointer (some ⟨g, 0, none⟩), .int .i64 i] w fun e w' => e = .returned (.tuple #[.agg #[.int .i64 0, .int .i64 0, .int .i64 0, .int .i64 0, .int .i64 0, .int .i64 0, .int .i64 0, .int .i64 0, .int .u64 0, .int .u64 0, .string ⟨#[]⟩], .bool false]) ∧ Below w.heap.size w w' := by
 have H : Hid (∀ wx, Gr wx B g mi mv v mo ns → Calls Try.prog 29 #[.pointer (some ⟨g, 0, none⟩), .int .i64 i] wx fun e w' => e = .returned (.bool false) ∧ w' = wx) := fun wx hx => by rw [← hi]; exact has_any hx i
 have HG : Hid _ := h
 clear h hi
 go_enter Try.func18, Try.ntmps18
 go_wp2_with fail
 refine (H.out _ (HG.out.alloc _)).mono ?_
 rintro e wz ⟨rfl, rfl⟩
 go_wp2_with fail
 refine bodyPost_ret (v := .tuple #[.agg #[.int .i64 0, .int .i64 0, .int .i64 0, .int .i64 0, .int .i64 0, .int .i64 0, .int .i64 0, .int .i64 0, .int .u64 0, .int .u64 0, .string ⟨#[]⟩], .bool false]) (by simp [results, Try.results18, go_sem]) rfl ?_
 exact ⟨rfl, by go_grown⟩
theorem node_yes {w : World} {B g mi mv mo : Nat} {v : Value} {ns : List Nd} (h : Gr w B g mi mv v mo ns) {i : Nat} {n : Nd} (hi : ns[i]? = some n) :
  Calls Try.prog 18 #[.pointer (some ⟨g, 0, none⟩), .int .i64 ((i : Int) + 1)] w fun e w' => e = .returned (.tuple #[.agg #[.int .i64 n.op, .int .i64 n.s, .int .i64 n.a, .int .i64 n.b, .int .i64 n.c, .int .i64 n.p, .int .i64 n.q, .int .i64 n.w, .int .u64 n.lo, .int .u64 n.hi, .string n.nm], .bool true]) ∧ Below w.heap.size w w' := by
 have hlt : i < ns.length := (List.getElem?_eq_some_iff.1 hi).1
 have hlen := h.len
 have H : Hid (∀ wx, Gr wx B g mi mv v mo ns → Calls Try.prog 29 #[.pointer (some ⟨g, 0, none⟩), .int .i64 ((i : Int) + 1)] wx fun e w' => e = .returned (.bool true) ∧ w' = wx) := fun wx hx => by
  have e : hasB ns.length ((i : Int) + 1) = true := by simp [hasB]; omega
  rw [← e]; exact has_any hx _
 have HG : Hid _ := h
 have c1 := h.c1
 have hg := h.lt
 obtain ⟨r, cap, rfl, hBr, ⟨cur, hr⟩, hc⟩ := row_at (mo := mo) h.row hi
 have hrl : r < w.heap.size := (Array.getElem?_eq_some_iff.1 hr).1
 have d0 : w.cell? ⟨r, i * 11, none⟩ = some (.int .i64 n.op) := hc 0 _ rfl
 have d1 := hc 1 _ rfl
 have d2 := hc 2 _ rfl
 have d3 := hc 3 _ rfl
 have d4 := hc 4 _ rfl
 have d5 := hc 5 _ rfl
 have d6 := hc 6 _ rfl
 have d7 := hc 7 _ rfl
 have d8 := hc 8 _ rfl
 have d9 := hc 9 _ rfl
 have d10 := hc 10 _ rfl
 clear hc hr hi
 have e1 : wrap64 (i : Int) = i := by unfold wrap64; omega
 have b1 : (i : Int) < (ns.length : Int) := by omega
 obtain ⟨N, hN⟩ : ∃ N, N = ns.length := ⟨_, rfl⟩
 rw [← hN] at c1 b1 hlt
 clear hN h hlen
 go_enter Try.func18, Try.ntmps18
 go_wp2_with fail
 refine (H.out _ (HG.out.alloc _)).mono ?_
 rintro e wz ⟨rfl, rfl⟩
 go_wp2_with fail
 refine bodyPost_ret (v := .tuple #[.agg #[.int .i64 n.op, .int .i64 n.s, .int .i64 n.a, .int .i64 n.b, .int .i64 n.c, .int .i64 n.p, .int .i64 n.q, .int .i64 n.w, .int .u64 n.lo, .int .u64 n.hi, .string n.nm], .bool true]) (by simp [results, Try.results18, go_sem]) rfl ?_
 exact ⟨rfl, by go_grown⟩
theorem nodeLaw : WideMaps.KeyLaw Try.prog 43 := deep_law (m := 20) (by decide) (by kernel_rfl) (by kernel_rfl) (by kernel_rfl)
theorem strUnder : Try.prog.underlying 9 = some .string := by kernel_rfl
theorem strLaw : WideMaps.KeyLaw Try.prog 9 := WideMaps.string_law strUnder
theorem idsUnder : Try.prog.underlying 55 = some (.map 43 3) := by kernel_rfl
theorem varsUnder : Try.prog.underlying 56 = some (.map 9 3) := by kernel_rfl
theorem zeroInt (w : World) : (zeroValue 3).run Try.prog w = .ok (.int .i64 0) w := by kernel_rfl
theorem strKey {s : ByteArray} (hs : s.size ≤ maxLen) : keyOf Try.prog 9 (.string s) = some (.string s.data.toList) := WideMaps.keyOf_string_mk strUnder hs
def varAt (ns : List Nd) (s : ByteArray) : Int := match ns.findIdx? (fun m => decide (m.op = 2) && decide (m.nm = s)) with | some i => (i : Int) + 1 | none => 0
theorem varAt_none {ns : List Nd} {s : ByteArray} (h : ∀ m ∈ ns, m.op = 2 → m.nm ≠ s) : varAt ns s = 0 := by
 unfold varAt
 rw [List.findIdx?_eq_none_iff.2 (fun m hm => by
  have := h m hm
  by_cases h2 : m.op = 2 <;> simp [h2, this])]
theorem varAt_some {ns : List Nd} (hv : Inv ns) {s : ByteArray} {i : Nat} {n : Nd} (h : ns[i]? = some n) (h2 : n.op = 2) (hn : n.nm = s) : varAt ns s = (i : Int) + 1 := by
 obtain ⟨hi, e⟩ := List.getElem?_eq_some_iff.1 h
 have hf : ns.findIdx? (fun m => decide (m.op = 2) && decide (m.nm = s)) = some i := by
  rw [List.findIdx?_eq_some_iff_getElem]
  refine ⟨hi, by simp [e, h2, hn], fun j hj => ?_⟩
  intro hq
  obtain ⟨h2', hjn⟩ : ns[j].op = 2 ∧ ns[j].nm = s := by simpa using hq
  have hjl : j < ns.length := by omega
  have := hv.names ns[j] (List.getElem_mem hjl) n (List.mem_of_getElem? h) h2' h2 (by rw [hjn, hn])
  rw [← e] at this
  exact List.pairwise_iff_getElem.1 hv.once j i hjl hi hj this
 unfold varAt
 rw [hf]
theorem var_any {w : World} {B g mi mv mo : Nat} {v : Value} {ns : List Nd} (h : Gr w B g mi mv v mo ns) {s : ByteArray} (hs : s.size ≤ maxLen) :
  Calls Try.prog 40 #[.pointer (some ⟨g, 0, none⟩), .string s] w fun e w' => e = .returned (.tuple #[.int .i64 (varAt ns s), .bool (!decide (varAt ns s = 0))]) ∧ w' = w := by
 have c3 := h.c3
 rcases h.vars.look strLaw varsUnder (zeroInt w) (strKey hs) with ⟨hr, hn⟩ | ⟨p, hp, he, hr⟩
 ·have e : varAt ns s = 0 := varAt_none fun m hm h2 e => by
   obtain ⟨i, hi, em⟩ := List.getElem_of_mem hm
   exact hn _ (in_varL (by rw [List.getElem?_eq_getElem hi, em]) h2) (by rw [e])
  rw [e]
  clear h hn e
  go_enter Try.func40, Try.ntmps40
  go_wp2_with fail
  refine bodyPost_ret (v := .tuple #[.int .i64 0, .bool false]) (by simp [results, Try.results40, go_sem]) rfl ?_
  exact ⟨rfl, rfl⟩
 ·obtain ⟨i, n, hi, h2, rfl⟩ := mem_varL hp
  have hnm : n.nm = s := by simpa using he
  have e : varAt ns s = (i : Int) + 1 := varAt_some h.inv hi h2 hnm
  rw [e, show (!decide ((i : Int) + 1 = 0)) = true by simp; omega]
  dsimp only at hr
  clear h hp he e hi h2 hnm
  go_enter Try.func40, Try.ntmps40
  go_wp2_with fail
  refine bodyPost_ret (v := .tuple #[.int .i64 ((i : Int) + 1), .bool true]) (by simp [results, Try.results40, go_sem]) rfl ?_
  exact ⟨rfl, rfl⟩
def roomOf (most : Int) : Nat := (min (max most 1) 4096).toNat
theorem gnew_any (most : Int) (w : World) :
  Calls Try.prog 13 #[.int .i64 most] w fun e w' => e = .returned (.pointer (some ⟨w.heap.size + 2, 0, none⟩)) ∧ Below w.heap.size w w' ∧ Gr w' w.heap.size (w.heap.size + 2) w.heap.size (w.heap.size + 1) (.slice none 0 0) (roomOf most) [] := by
 have key : ∀ x : Int, x = (roomOf most : Int) → Gr (((w.alloc (.map #[] 0)).alloc (.map #[] 0)).alloc (.cells #[.int .i64 x, .slice none 0 0, .map (some w.heap.size), .map (some (w.heap.size + 1))] 58)) w.heap.size (w.heap.size + 2) w.heap.size (w.heap.size + 1) (.slice none 0 0) (roomOf most) [] := by
  rintro x rfl
  have s1 : ∀ a : Obj, (w.alloc a).heap.size = w.heap.size + 1 := fun a => by simp
  have s2 : ∀ a b : Obj, ((w.alloc a).alloc b).heap.size = w.heap.size + 2 := fun a b => by simp
  refine ⟨?_, World.ownsRow_nil _ _ _ _, ⟨#[], 0, ?_, rfl, (fun p hp => nomatch hp)⟩, ⟨#[], 0, ?_, rfl, (fun p hp => nomatch hp)⟩, by omega, by omega, by omega, by omega, by unfold roomOf; omega, by simp, Inv.nil⟩
  ·rw [← s2 (.map #[] 0) (.map #[] 0)]; exact heap_alloc_new _ _
  ·exact (heap_alloc_old _ _ (by rw [s2]; omega)).trans ((heap_alloc_old _ _ (by rw [s1]; omega)).trans (heap_alloc_new w _))
  ·refine (heap_alloc_old _ _ (by rw [s2]; omega)).trans ?_
   rw [← s1 (.map #[] 0)]; exact heap_alloc_new _ _
 have HK : Hid _ := key
 clear key
 have hmm := @run_makeMap Try.prog
 by_cases h1 : most < 1
 ·have e : Hid ((1 : Int) = (roomOf most : Int)) := by unfold Hid roomOf; omega
  go_enter Try.func13, Try.ntmps13
  go_wp2_with fail
  go_ret
  exact ⟨rfl, by go_grown, HK.out _ e.out⟩
 ·by_cases h2 : most ≤ 4096
  ·have e : Hid (most = (roomOf most : Int)) := by unfold Hid roomOf; omega
   go_enter Try.func13, Try.ntmps13
   go_wp2_with fail
   go_ret
   exact ⟨rfl, by go_grown, HK.out _ e.out⟩
  ·have e : Hid ((4096 : Int) = (roomOf most : Int)) := by unfold Hid roomOf; omega
   go_enter Try.func13, Try.ntmps13
   go_wp2_with fail
   go_ret
   exact ⟨rfl, by go_grown, HK.out _ e.out⟩
theorem prt_ari {N : Nat} {n : Nd} (h : ari n.op < 0) : prt N n = false := by simp [prt, show ¬ 0 ≤ ari n.op by omega]
theorem ari_le (op : Int) : ari op ≤ 3 := by unfold ari; repeat' split <;> omega
def zB (a b c : Int) : Bool := decide (a = 0) && decide (b = 0) && decide (c = 0)
theorem neqz (a b c : Int) (w : World) : (binOp .neq 25 (.agg #[.int .i64 a, .int .u64 b, .int .u64 c]) (.agg #[.int .i64 0, .int .u64 0, .int .u64 0])).run Try.prog w = .ok (.bool (!zB a b c)) w := by
 unfold zB
 by_cases h1 : a = 0
 ·by_cases h2 : b = 0
  ·by_cases h3 : c = 0 <;> simp [go_sem, h1, h2, h3]
  ·simp [go_sem, h1, h2]
 ·simp [go_sem, h1]
theorem parts_neg {w : World} {g : Nat} {n : Nd} (h : ari n.op < 0) :
  Calls Try.prog 35 #[.pointer (some ⟨g, 0, none⟩), .agg #[.int .i64 n.op, .int .i64 n.s, .int .i64 n.a, .int .i64 n.b, .int .i64 n.c, .int .i64 n.p, .int .i64 n.q, .int .i64 n.w, .int .u64 n.lo, .int .u64 n.hi, .string n.nm]] w fun e w' => e = .returned (.bool false) ∧ Below w.heap.size w w' := by
 obtain ⟨k, hk⟩ : ∃ k, k = ari n.op := ⟨_, rfl⟩
 have HA : Hid (∀ wx, Calls Try.prog 44 #[.int .i64 n.op] wx fun e w' => e = .returned (.int .i64 k) ∧ w' = wx) := fun wx => by rw [hk]; exact arity_any _ wx
 rw [← hk] at h
 clear hk
 go_enter Try.func35, Try.ntmps35
 go_wp2_with fail
 refine (HA.out _).mono ?_
 rintro e wz ⟨rfl, rfl⟩
 go_wp2_with fail
 go_ret
 exact ⟨rfl, by go_grown⟩
theorem loop_len (bs : ByteArray) : ∀ (k i : Nat) (r : List UInt8), bs.size - i = k → (ByteArray.toList.loop bs i r).length = r.length + k
 | 0, i, r, h => by
  unfold ByteArray.toList.loop
  rw [if_neg (by omega)]
  simp
 | k + 1, i, r, h => by
  unfold ByteArray.toList.loop
  rw [if_pos (by omega), loop_len bs k (i + 1) _ (by omega)]
  simp
  omega
theorem emp_eq (b : ByteArray) : b.toList.isEmpty = (b.size == 0) := by
 have h : b.toList.length = b.size := by
  unfold ByteArray.toList
  rw [loop_len b b.size 0 [] (by omega)]
  simp
 cases hl : b.toList with
 | nil => rw [hl] at h; simp at h; simp [← h]
 | cons x l => rw [hl] at h; simp at h; simp [← h]
theorem prt_eq {N : Nat} {n : Nd} {k : Int} (hk : ari n.op = k) : prt N n = (decide (0 ≤ k) && opB N k 0 n.a && opB N k 1 n.b && opB N k 2 n.c && (decide (n.op = 1) || zB n.w n.lo n.hi) && (decide (n.op = 2) || n.nm.size == 0)) := by subst hk; rfl
theorem parts_0 {w : World} {B g mi mv mo : Nat} {v : Value} {ns : List Nd} (h : Gr w B g mi mv v mo ns) {n : Nd} (hk : ari n.op = 0) :
  Calls Try.prog 35 #[.pointer (some ⟨g, 0, none⟩), .agg #[.int .i64 n.op, .int .i64 n.s, .int .i64 n.a, .int .i64 n.b, .int .i64 n.c, .int .i64 n.p, .int .i64 n.q, .int .i64 n.w, .int .u64 n.lo, .int .u64 n.hi, .string n.nm]] w fun e w' => e = .returned (.bool (prt ns.length n)) ∧ Below w.heap.size w w' := by
 have HA : Hid (∀ wx, Calls Try.prog 44 #[.int .i64 n.op] wx fun e w' => e = .returned (.int .i64 0) ∧ w' = wx) := fun wx => by rw [← hk]; exact arity_any _ wx
 have H : Hid (∀ wx (i : Int), Below w.heap.size w wx → Calls Try.prog 29 #[.pointer (some ⟨g, 0, none⟩), .int .i64 i] wx fun e w' => e = .returned (.bool (hasB ns.length i)) ∧ w' = wx) := fun wx i hb => has_any (h.below hb) i
 obtain ⟨r, hr⟩ : ∃ r, r = prt ns.length n := ⟨_, rfl⟩
 rw [← hr]
 rw [prt_eq hk] at hr
 have HR : Hid _ := hr
 clear hr h
 have ho : n.op = 1 ∨ n.op = 2 := by unfold ari at hk; repeat' split at hk <;> omega
 clear hk
 have hnz := neqz
 obtain ⟨N, hN⟩ : ∃ N, N = ns.length := ⟨_, rfl⟩
 rw [← hN] at H HR
 clear hN
 go_enter Try.func35, Try.ntmps35
 go_wp2_with fail
 refine (HA.out _).mono ?_
 rintro e wz ⟨rfl, rfl⟩
 go_wp2_with fail
 refine wp_loop_rounds 1 ?_
 rw [rounds_succ]
 go_wp2_with fail
 refine wp_loop_rounds 4 ?_
 rw [rounds_succ]
 by_cases hb0 : n.a = 0
 rotate_left 1
 ·have z0 : (n.a != 0) = true := by simp [hb0]
  go_wp2_with fail
  go_ret
  exact ⟨by rw [HR.out]; simp [opB, hb0], by go_grown⟩
 have z0 : (n.a != 0) = false := by simp [hb0]
 go_wp2_with fail
 rw [rounds_succ]
 by_cases hb1 : n.b = 0
 rotate_left 1
 ·have z1 : (n.b != 0) = true := by simp [hb1]
  go_wp2_with fail
  go_ret
  exact ⟨by rw [HR.out]; simp [opB, hb0, hb1], by go_grown⟩
 have z1 : (n.b != 0) = false := by simp [hb1]
 go_wp2_with fail
 rw [rounds_succ]
 by_cases hb2 : n.c = 0
 rotate_left 1
 ·have z2 : (n.c != 0) = true := by simp [hb2]
  go_wp2_with fail
  go_ret
  exact ⟨by rw [HR.out]; simp [opB, hb0, hb1, hb2], by go_grown⟩
 have z2 : (n.c != 0) = false := by simp [hb2]
 go_wp2_with fail
 rw [rounds_succ]
 rcases ho with ho | ho
 ·skip
  go_wp2_with fail
  go_ret
  exact ⟨by rw [HR.out]; simp [opB, emp_eq, hb0, hb1, hb2, ho], by go_grown⟩
 ·skip
  cases hz : zB n.w n.lo n.hi
  ·go_wp2_with fail
   go_ret
   exact ⟨by rw [HR.out]; simp [opB, hb0, hb1, hb2, ho, hz], by go_grown⟩
  ·skip
   go_wp2_with fail
   go_ret
   exact ⟨by rw [HR.out]; simp [opB, hb0, hb1, hb2, ho, hz], by go_grown⟩
theorem parts_1 {w : World} {B g mi mv mo : Nat} {v : Value} {ns : List Nd} (h : Gr w B g mi mv v mo ns) {n : Nd} (hk : ari n.op = 1) :
  Calls Try.prog 35 #[.pointer (some ⟨g, 0, none⟩), .agg #[.int .i64 n.op, .int .i64 n.s, .int .i64 n.a, .int .i64 n.b, .int .i64 n.c, .int .i64 n.p, .int .i64 n.q, .int .i64 n.w, .int .u64 n.lo, .int .u64 n.hi, .string n.nm]] w fun e w' => e = .returned (.bool (prt ns.length n)) ∧ Below w.heap.size w w' := by
 have HA : Hid (∀ wx, Calls Try.prog 44 #[.int .i64 n.op] wx fun e w' => e = .returned (.int .i64 1) ∧ w' = wx) := fun wx => by rw [← hk]; exact arity_any _ wx
 have H : Hid (∀ wx (i : Int), Below w.heap.size w wx → Calls Try.prog 29 #[.pointer (some ⟨g, 0, none⟩), .int .i64 i] wx fun e w' => e = .returned (.bool (hasB ns.length i)) ∧ w' = wx) := fun wx i hb => has_any (h.below hb) i
 obtain ⟨r, hr⟩ : ∃ r, r = prt ns.length n := ⟨_, rfl⟩
 rw [← hr]
 rw [prt_eq hk] at hr
 have HR : Hid _ := hr
 clear hr h
 have ho1 : ¬ n.op = 1 := fun e => by rw [e] at hk; revert hk; decide
 have ho2 : ¬ n.op = 2 := fun e => by rw [e] at hk; revert hk; decide
 clear hk
 have hnz := neqz
 obtain ⟨N, hN⟩ : ∃ N, N = ns.length := ⟨_, rfl⟩
 rw [← hN] at H HR
 clear hN
 go_enter Try.func35, Try.ntmps35
 go_wp2_with fail
 refine (HA.out _).mono ?_
 rintro e wz ⟨rfl, rfl⟩
 go_wp2_with fail
 refine wp_loop_rounds 2 ?_
 rw [rounds_succ]
 go_wp2_with fail
 refine (H.out _ _ (by go_grown)).mono ?_
 rintro e wz ⟨rfl, rfl⟩
 cases hb0 : hasB N n.a
 ·go_wp2_with fail
  go_ret
  exact ⟨by rw [HR.out]; simp [opB, hb0], by go_grown⟩
 ·go_wp2_with fail
  rw [rounds_succ]
  go_wp2_with fail
  refine wp_loop_rounds 3 ?_
  rw [rounds_succ]
  by_cases hb1 : n.b = 0
  rotate_left 1
  ·have z1 : (n.b != 0) = true := by simp [hb1]
   go_wp2_with fail
   go_ret
   exact ⟨by rw [HR.out]; simp [opB, hb0, hb1], by go_grown⟩
  have z1 : (n.b != 0) = false := by simp [hb1]
  go_wp2_with fail
  rw [rounds_succ]
  by_cases hb2 : n.c = 0
  rotate_left 1
  ·have z2 : (n.c != 0) = true := by simp [hb2]
   go_wp2_with fail
   go_ret
   exact ⟨by rw [HR.out]; simp [opB, hb0, hb1, hb2], by go_grown⟩
  have z2 : (n.c != 0) = false := by simp [hb2]
  go_wp2_with fail
  rw [rounds_succ]
  cases hz : zB n.w n.lo n.hi
  ·go_wp2_with fail
   go_ret
   exact ⟨by rw [HR.out]; simp [opB, hb0, hb1, hb2, ho1, ho2, hz], by go_grown⟩
  ·skip
   go_wp2_with fail
   go_ret
   exact ⟨by rw [HR.out]; simp [opB, emp_eq, hb0, hb1, hb2, ho1, ho2, hz], by go_grown⟩
theorem parts_2 {w : World} {B g mi mv mo : Nat} {v : Value} {ns : List Nd} (h : Gr w B g mi mv v mo ns) {n : Nd} (hk : ari n.op = 2) :
  Calls Try.prog 35 #[.pointer (some ⟨g, 0, none⟩), .agg #[.int .i64 n.op, .int .i64 n.s, .int .i64 n.a, .int .i64 n.b, .int .i64 n.c, .int .i64 n.p, .int .i64 n.q, .int .i64 n.w, .int .u64 n.lo, .int .u64 n.hi, .string n.nm]] w fun e w' => e = .returned (.bool (prt ns.length n)) ∧ Below w.heap.size w w' := by
 have HA : Hid (∀ wx, Calls Try.prog 44 #[.int .i64 n.op] wx fun e w' => e = .returned (.int .i64 2) ∧ w' = wx) := fun wx => by rw [← hk]; exact arity_any _ wx
 have H : Hid (∀ wx (i : Int), Below w.heap.size w wx → Calls Try.prog 29 #[.pointer (some ⟨g, 0, none⟩), .int .i64 i] wx fun e w' => e = .returned (.bool (hasB ns.length i)) ∧ w' = wx) := fun wx i hb => has_any (h.below hb) i
 obtain ⟨r, hr⟩ : ∃ r, r = prt ns.length n := ⟨_, rfl⟩
 rw [← hr]
 rw [prt_eq hk] at hr
 have HR : Hid _ := hr
 clear hr h
 have ho1 : ¬ n.op = 1 := fun e => by rw [e] at hk; revert hk; decide
 have ho2 : ¬ n.op = 2 := fun e => by rw [e] at hk; revert hk; decide
 clear hk
 have hnz := neqz
 obtain ⟨N, hN⟩ : ∃ N, N = ns.length := ⟨_, rfl⟩
 rw [← hN] at H HR
 clear hN
 go_enter Try.func35, Try.ntmps35
 go_wp2_with fail
 refine (HA.out _).mono ?_
 rintro e wz ⟨rfl, rfl⟩
 go_wp2_with fail
 refine wp_loop_rounds 3 ?_
 rw [rounds_succ]
 go_wp2_with fail
 refine (H.out _ _ (by go_grown)).mono ?_
 rintro e wz ⟨rfl, rfl⟩
 cases hb0 : hasB N n.a
 ·go_wp2_with fail
  go_ret
  exact ⟨by rw [HR.out]; simp [opB, hb0], by go_grown⟩
 ·go_wp2_with fail
  rw [rounds_succ]
  go_wp2_with fail
  refine (H.out _ _ (by go_grown)).mono ?_
  rintro e wz ⟨rfl, rfl⟩
  cases hb1 : hasB N n.b
  ·go_wp2_with fail
   go_ret
   exact ⟨by rw [HR.out]; simp [opB, hb0, hb1], by go_grown⟩
  ·go_wp2_with fail
   rw [rounds_succ]
   go_wp2_with fail
   refine wp_loop_rounds 2 ?_
   rw [rounds_succ]
   by_cases hb2 : n.c = 0
   rotate_left 1
   ·have z2 : (n.c != 0) = true := by simp [hb2]
    go_wp2_with fail
    go_ret
    exact ⟨by rw [HR.out]; simp [opB, hb0, hb1, hb2], by go_grown⟩
   have z2 : (n.c != 0) = false := by simp [hb2]
   go_wp2_with fail
   rw [rounds_succ]
   cases hz : zB n.w n.lo n.hi
   ·go_wp2_with fail
    go_ret
    exact ⟨by rw [HR.out]; simp [opB, hb0, hb1, hb2, ho1, ho2, hz], by go_grown⟩
   ·skip
    go_wp2_with fail
    go_ret
    exact ⟨by rw [HR.out]; simp [opB, emp_eq, hb0, hb1, hb2, ho1, ho2, hz], by go_grown⟩
theorem parts_3 {w : World} {B g mi mv mo : Nat} {v : Value} {ns : List Nd} (h : Gr w B g mi mv v mo ns) {n : Nd} (hk : ari n.op = 3) :
  Calls Try.prog 35 #[.pointer (some ⟨g, 0, none⟩), .agg #[.int .i64 n.op, .int .i64 n.s, .int .i64 n.a, .int .i64 n.b, .int .i64 n.c, .int .i64 n.p, .int .i64 n.q, .int .i64 n.w, .int .u64 n.lo, .int .u64 n.hi, .string n.nm]] w fun e w' => e = .returned (.bool (prt ns.length n)) ∧ Below w.heap.size w w' := by
 have HA : Hid (∀ wx, Calls Try.prog 44 #[.int .i64 n.op] wx fun e w' => e = .returned (.int .i64 3) ∧ w' = wx) := fun wx => by rw [← hk]; exact arity_any _ wx
 have H : Hid (∀ wx (i : Int), Below w.heap.size w wx → Calls Try.prog 29 #[.pointer (some ⟨g, 0, none⟩), .int .i64 i] wx fun e w' => e = .returned (.bool (hasB ns.length i)) ∧ w' = wx) := fun wx i hb => has_any (h.below hb) i
 obtain ⟨r, hr⟩ : ∃ r, r = prt ns.length n := ⟨_, rfl⟩
 rw [← hr]
 rw [prt_eq hk] at hr
 have HR : Hid _ := hr
 clear hr h
 have ho1 : ¬ n.op = 1 := fun e => by rw [e] at hk; revert hk; decide
 have ho2 : ¬ n.op = 2 := fun e => by rw [e] at hk; revert hk; decide
 clear hk
 have hnz := neqz
 obtain ⟨N, hN⟩ : ∃ N, N = ns.length := ⟨_, rfl⟩
 rw [← hN] at H HR
 clear hN
 go_enter Try.func35, Try.ntmps35
 go_wp2_with fail
 refine (HA.out _).mono ?_
 rintro e wz ⟨rfl, rfl⟩
 go_wp2_with fail
 refine wp_loop_rounds 4 ?_
 rw [rounds_succ]
 go_wp2_with fail
 refine (H.out _ _ (by go_grown)).mono ?_
 rintro e wz ⟨rfl, rfl⟩
 cases hb0 : hasB N n.a
 ·go_wp2_with fail
  go_ret
  exact ⟨by rw [HR.out]; simp [opB, hb0], by go_grown⟩
 ·go_wp2_with fail
  rw [rounds_succ]
  go_wp2_with fail
  refine (H.out _ _ (by go_grown)).mono ?_
  rintro e wz ⟨rfl, rfl⟩
  cases hb1 : hasB N n.b
  ·go_wp2_with fail
   go_ret
   exact ⟨by rw [HR.out]; simp [opB, hb0, hb1], by go_grown⟩
  ·go_wp2_with fail
   rw [rounds_succ]
   go_wp2_with fail
   refine (H.out _ _ (by go_grown)).mono ?_
   rintro e wz ⟨rfl, rfl⟩
   cases hb2 : hasB N n.c
   ·go_wp2_with fail
    go_ret
    exact ⟨by rw [HR.out]; simp [opB, hb0, hb1, hb2], by go_grown⟩
   ·go_wp2_with fail
    rw [rounds_succ]
    go_wp2_with fail
    refine wp_loop_rounds 1 ?_
    rw [rounds_succ]
    cases hz : zB n.w n.lo n.hi
    ·go_wp2_with fail
     go_ret
     exact ⟨by rw [HR.out]; simp [opB, hb0, hb1, hb2, ho1, ho2, hz], by go_grown⟩
    ·skip
     go_wp2_with fail
     go_ret
     exact ⟨by rw [HR.out]; simp [opB, emp_eq, hb0, hb1, hb2, ho1, ho2, hz], by go_grown⟩
theorem parts_any {w : World} {B g mi mv mo : Nat} {v : Value} {ns : List Nd} (h : Gr w B g mi mv v mo ns) (n : Nd) :
  Calls Try.prog 35 #[.pointer (some ⟨g, 0, none⟩), .agg #[.int .i64 n.op, .int .i64 n.s, .int .i64 n.a, .int .i64 n.b, .int .i64 n.c, .int .i64 n.p, .int .i64 n.q, .int .i64 n.w, .int .u64 n.lo, .int .u64 n.hi, .string n.nm]] w fun e w' => e = .returned (.bool (prt ns.length n)) ∧ Below w.heap.size w w' := by
 by_cases h0 : ari n.op < 0
 ·rw [prt_ari h0]
  exact parts_neg h0
 ·have h3 := ari_le n.op
  have hx : ari n.op = 0 ∨ ari n.op = 1 ∨ ari n.op = 2 ∨ ari n.op = 3 := by omega
  rcases hx with hx | hx | hx | hx
  ·exact parts_0 h hx
  ·exact parts_1 h hx
  ·exact parts_2 h hx
  ·exact parts_3 h hx
end Go.Proofs.Ytedldoobmmhloaa
