/- Contracts (terms): a graph is made; a variable. -/
import Derived.Test.YtjmbicaacplolaaY3
namespace Go.Proofs.Ytjmbicaacplolaa
open Go.RowKit
set_option linter.unusedSimpArgs false
set_option linter.unusedVariables false

theorem nodeLaw : WideMaps.KeyLaw Try.prog 36 := deep_law (m := 20) (by decide) (by kernel_rfl) (by kernel_rfl) (by kernel_rfl)
theorem strUnder : Try.prog.underlying 9 = some .string := by kernel_rfl
theorem strLaw : WideMaps.KeyLaw Try.prog 9 := WideMaps.string_law strUnder
theorem idsUnder : Try.prog.underlying 59 = some (.map 36 3) := by kernel_rfl
theorem varsUnder : Try.prog.underlying 60 = some (.map 9 3) := by kernel_rfl
theorem zeroInt (w : World) : (zeroValue 3).run Try.prog w = .ok (.int .i64 0) w := by kernel_rfl
theorem strKey {s : ByteArray} (hs : s.size ≤ maxLen) : keyOf Try.prog 9 (.string s) = some (.string s.data.toList) := WideMaps.keyOf_string_mk strUnder hs

/-- The number of the variable of that name; 0: none. -/
def varAt (ns : List Nd) (s : ByteArray) : Int := match ns.findIdx? (fun m => decide (m.op = 2) && decide (m.nm = s)) with | some i => (i : Int) + 1 | none => 0
theorem varAt_none {ns : List Nd} {s : ByteArray} (h : ∀ m ∈ ns, m.op = 2 → m.nm ≠ s) : varAt ns s = 0 := by
  unfold varAt
  rw [List.findIdx?_eq_none_iff.2 (fun m hm => by
    have := h m hm
    by_cases h2 : m.op = 2 <;> simp [h2, this])]
theorem varAt_some {ns : List Nd} (hv : Inv ns) {s : ByteArray} {i : Nat} {n : Nd} (h : ns[i]? = some n) (h2 : n.op = 2) (hn : n.nm = s) : varAt ns s = (i : Int) + 1 := by
  obtain ⟨hi, e⟩ := List.getElem?_eq_some_iff.1 h
  have hf : ns.findIdx? (fun m => decide (m.op = 2) && decide (m.nm = s)) = some i := by
    rw [List.findIdx?_eq_some_iff_getElem]
    refine ⟨hi, by simp [e, h2, hn], fun j hj => ?_⟩
    intro hq
    obtain ⟨h2', hjn⟩ : ns[j].op = 2 ∧ ns[j].nm = s := by simpa using hq
    have hjl : j < ns.length := by omega
    have := hv.names ns[j] (List.getElem_mem hjl) n (List.mem_of_getElem? h) h2' h2 (by rw [hjn, hn])
    rw [← e] at this
    exact List.pairwise_iff_getElem.1 hv.once j i hjl hi hj this
  unfold varAt
  rw [hf]

set_option maxHeartbeats 800000 in
theorem var_any {w : World} {B g mi mv mo : Nat} {v : Value} {ns : List Nd} (h : Gr w B g mi mv v mo ns) {s : ByteArray} (hs : s.size ≤ maxLen) :
    Calls Try.prog 20 #[.pointer (some ⟨g, 0, none⟩), .string s] w fun e w' => e = .returned (.tuple #[.int .i64 (varAt ns s), .bool (!decide (varAt ns s = 0))]) ∧ w' = w := by
  have c3 := h.c3
  rcases h.vars.look strLaw varsUnder (zeroInt w) (strKey hs) with ⟨hr, hn⟩ | ⟨p, hp, he, hr⟩
  · have e : varAt ns s = 0 := varAt_none fun m hm h2 e => by
      obtain ⟨i, hi, em⟩ := List.getElem_of_mem hm
      exact hn _ (in_varL (by rw [List.getElem?_eq_getElem hi, em]) h2) (by rw [e])
    rw [e]
    clear h hn e
    go_enter Try.func20, Try.ntmps20
    go_wp2_with fail
    refine bodyPost_ret (v := .tuple #[.int .i64 0, .bool false]) (by simp [results, Try.results20, go_sem]) rfl ?_
    exact ⟨rfl, rfl⟩
  · obtain ⟨i, n, hi, h2, rfl⟩ := mem_varL hp
    have hnm : n.nm = s := by simpa using he
    have e : varAt ns s = (i : Int) + 1 := varAt_some h.inv hi h2 hnm
    rw [e, show (!decide ((i : Int) + 1 = 0)) = true by simp; omega]
    dsimp only at hr
    clear h hp he e hi h2 hnm
    go_enter Try.func20, Try.ntmps20
    go_wp2_with fail
    refine bodyPost_ret (v := .tuple #[.int .i64 ((i : Int) + 1), .bool true]) (by simp [results, Try.results20, go_sem]) rfl ?_
    exact ⟨rfl, rfl⟩

/-- How many nodes a graph takes. -/
def roomOf (most : Int) : Nat := (min (max most 1) 4096).toNat
set_option maxHeartbeats 800000 in
theorem new_any (most : Int) (w : World) :
    Calls Try.prog 10 #[.int .i64 most] w fun e w' => e = .returned (.pointer (some ⟨w.heap.size + 2, 0, none⟩)) ∧ Below w.heap.size w w' ∧ Gr w' w.heap.size (w.heap.size + 2) w.heap.size (w.heap.size + 1) (.slice none 0 0) (roomOf most) [] := by
  have key : ∀ x : Int, x = (roomOf most : Int) → Gr (((w.alloc (.map #[] 0)).alloc (.map #[] 0)).alloc (.cells #[.int .i64 x, .slice none 0 0, .map (some w.heap.size), .map (some (w.heap.size + 1))] 62)) w.heap.size (w.heap.size + 2) w.heap.size (w.heap.size + 1) (.slice none 0 0) (roomOf most) [] := by
    rintro x rfl
    have s1 : ∀ a : Obj, (w.alloc a).heap.size = w.heap.size + 1 := fun a => by simp
    have s2 : ∀ a b : Obj, ((w.alloc a).alloc b).heap.size = w.heap.size + 2 := fun a b => by simp
    refine ⟨?_, World.ownsRow_nil _ _ _ _, ⟨#[], 0, ?_, rfl, (fun p hp => nomatch hp)⟩, ⟨#[], 0, ?_, rfl, (fun p hp => nomatch hp)⟩, by omega, by omega, by omega, by omega, by unfold roomOf; omega, by simp, Inv.nil⟩
    · rw [← s2 (.map #[] 0) (.map #[] 0)]; exact heap_alloc_new _ _
    · exact (heap_alloc_old _ _ (by rw [s2]; omega)).trans ((heap_alloc_old _ _ (by rw [s1]; omega)).trans (heap_alloc_new w _))
    · refine (heap_alloc_old _ _ (by rw [s2]; omega)).trans ?_
      rw [← s1 (.map #[] 0)]; exact heap_alloc_new _ _
  have HK : Hid _ := key
  clear key
  have hmm := @run_makeMap Try.prog
  by_cases h1 : most < 1
  · have e : Hid ((1 : Int) = (roomOf most : Int)) := by unfold Hid roomOf; omega
    go_enter Try.func10, Try.ntmps10
    go_wp2_with fail
    go_ret
    exact ⟨rfl, by go_grown, HK.out _ e.out⟩
  · by_cases h2 : most ≤ 4096
    · have e : Hid (most = (roomOf most : Int)) := by unfold Hid roomOf; omega
      go_enter Try.func10, Try.ntmps10
      go_wp2_with fail
      go_ret
      exact ⟨rfl, by go_grown, HK.out _ e.out⟩
    · have e : Hid ((4096 : Int) = (roomOf most : Int)) := by unfold Hid roomOf; omega
      go_enter Try.func10, Try.ntmps10
      go_wp2_with fail
      go_ret
      exact ⟨rfl, by go_grown, HK.out _ e.out⟩
end Go.Proofs.Ytjmbicaacplolaa
