/- Contracts (terms): a graph is made; what is there; a node; a variable. -/
import Derived.Test.YtjmbicaacplolaaY2
namespace Go.Proofs.Ytjmbicaacplolaa
open Go.RowKit
set_option linter.unusedSimpArgs false
set_option linter.unusedVariables false

theorem cell_of {w : World} {g : Nat} {cs : Array Value} {t : TypeId} {f : Nat × Nat} (h : w.heap[g]? = some (.cells cs t f)) (j : Nat) {v : Value} (hv : cs[j]? = some v) : w.cell? ⟨g, j, none⟩ = some v := by
  simp [World.cell?, h, hv]
theorem Gr.c0 {w : World} {B g mi mv mo : Nat} {v : Value} {ns : List Nd} (h : Gr w B g mi mv v mo ns) : w.cell? ⟨g, 0, none⟩ = some (.int .i64 (mo : Int)) := cell_of h.hd 0 rfl
theorem Gr.c1 {w : World} {B g mi mv mo : Nat} {v : Value} {ns : List Nd} (h : Gr w B g mi mv v mo ns) : w.cell? ⟨g, 1, none⟩ = some v := cell_of h.hd 1 rfl
theorem Gr.c2 {w : World} {B g mi mv mo : Nat} {v : Value} {ns : List Nd} (h : Gr w B g mi mv v mo ns) : w.cell? ⟨g, 2, none⟩ = some (.map (some mi)) := cell_of h.hd 2 rfl
theorem Gr.c3 {w : World} {B g mi mv mo : Nat} {v : Value} {ns : List Nd} (h : Gr w B g mi mv v mo ns) : w.cell? ⟨g, 3, none⟩ = some (.map (some mv)) := cell_of h.hd 3 rfl
theorem Gr.sl {w : World} {B g mi mv mo : Nat} {v : Value} {ns : List Nd} (h : Gr w B g mi mv v mo ns) : ∃ ad cap, v = .slice ad ns.length cap := by
  rcases h.row.2 with ⟨hv, hn⟩ | ⟨r, cap, cur, hv, _⟩
  · exact ⟨none, 0, by rw [hv, hn]⟩
  · exact ⟨_, cap, hv⟩
theorem Gr.len {w : World} {B g mi mv mo : Nat} {v : Value} {ns : List Nd} (h : Gr w B g mi mv v mo ns) : ns.length ≤ 4096 := Nat.le_trans h.room h.most
theorem row_at {w : World} {B mo : Nat} {v : Value} {ns : List Nd} {i : Nat} {n : Nd} (h : w.ownsRow B 36 11 v ns.length (ns.flatMap Nd.cs)) (hi : ns[i]? = some n) :
    ∃ r cap, v = .slice (some ⟨r, 0, none⟩) ns.length cap ∧ B ≤ r ∧ (∃ cur, w.heap[r]? = some (.cells cur 36)) ∧ ∀ j u, n.cs[j]? = some u → w.cell? ⟨r, i * 11 + j, none⟩ = some u := by
  have hlt : i < ns.length := (List.getElem?_eq_some_iff.1 hi).1
  rcases h.2 with ⟨hv, hn⟩ | ⟨r, cap, cur, hv, hb, hg, _, _, hs, ht⟩
  · omega
  · refine ⟨r, cap, hv, hb, ⟨cur, hg⟩, fun j u hj => ?_⟩
    have hj11 : j < 11 := (List.getElem?_eq_some_iff.1 hj).1
    have e : (ns.flatMap Nd.cs)[i * 11 + j]? = some u := by rw [css_at hi j hj11]; exact hj
    rw [← ht, List.getElem?_take_of_lt (by omega)] at e
    exact cell_of hg _ (by simpa using e)

set_option maxHeartbeats 800000 in
theorem has_any {w : World} {B g mi mv mo : Nat} {v : Value} {ns : List Nd} (h : Gr w B g mi mv v mo ns) (i : Int) :
    Calls Try.prog 33 #[.pointer (some ⟨g, 0, none⟩), .int .i64 i] w fun e w' => e = .returned (.bool (hasB ns.length i)) ∧ w' = w := by
  have c1 := h.c1
  obtain ⟨ad, cap, rfl⟩ := h.sl
  obtain ⟨N, hN⟩ : ∃ N, N = ns.length := ⟨_, rfl⟩
  rw [← hN] at c1 ⊢
  clear h hN
  by_cases h1 : 1 ≤ i
  · obtain ⟨r, hr⟩ : ∃ r, r = hasB N i := ⟨_, rfl⟩
    rw [← hr]
    have HR : Hid _ := hr
    clear hr
    go_enter Try.func33, Try.ntmps33
    go_wp2_with fail
    go_ret
    exact ⟨by rw [HR.out]; simp [hasB, h1], rfl⟩
  · have e : hasB N i = false := by simp [hasB, h1]
    rw [e]
    go_enter Try.func33, Try.ntmps33
    go_wp2_with fail
    go_ret
    exact ⟨rfl, rfl⟩

theorem glen_any {w : World} {B g mi mv mo : Nat} {v : Value} {ns : List Nd} (h : Gr w B g mi mv v mo ns) :
    Calls Try.prog 14 #[.pointer (some ⟨g, 0, none⟩)] w fun e w' => e = .returned (.int .i64 (ns.length : Int)) ∧ w' = w := by
  have c1 := h.c1
  obtain ⟨ad, cap, rfl⟩ := h.sl
  clear h
  go_enter Try.func14, Try.ntmps14
  go_wp2_with fail
  go_ret
  exact ⟨rfl, rfl⟩

theorem row_kept {w w' : World} {B : Nat} {e : TypeId} {sz : Nat} {v : Value} {n : Nat} {xs : List Value} (h : w.ownsRow B e sz v n xs) (hk : ∀ k, k < w.heap.size → w'.heap[k]? = w.heap[k]?) : w'.ownsRow B e sz v n xs := by
  refine ⟨h.1, ?_⟩
  rcases h.2 with hn | ⟨g, cap, cur, rfl, hb, hgg, rest⟩
  · exact .inl hn
  · exact .inr ⟨g, cap, cur, rfl, hb, by rw [hk g (Array.getElem?_eq_some_iff.1 hgg).1]; exact hgg, rest⟩
theorem Gr.lt {w : World} {B g mi mv mo : Nat} {v : Value} {ns : List Nd} (h : Gr w B g mi mv v mo ns) : g < w.heap.size := (Array.getElem?_eq_some_iff.1 h.hd).1
theorem Gr.kept {w w' : World} {B g mi mv mo : Nat} {v : Value} {ns : List Nd} (h : Gr w B g mi mv v mo ns) (hk : ∀ k, k < w.heap.size → w'.heap[k]? = w.heap[k]?) : Gr w' B g mi mv v mo ns :=
  ⟨(hk g h.lt).trans h.hd, row_kept h.row hk, h.ids.kept (hk mi h.ids.lt), h.vars.kept (hk mv h.vars.lt), h.bg, h.bi, h.bv, h.ne, h.most, h.room, h.inv⟩
theorem Gr.below {w w' : World} {B g mi mv mo : Nat} {v : Value} {ns : List Nd} (h : Gr w B g mi mv v mo ns) (hb : Below w.heap.size w w') : Gr w' B g mi mv v mo ns := h.kept hb.block
theorem Gr.alloc {w : World} {B g mi mv mo : Nat} {v : Value} {ns : List Nd} (h : Gr w B g mi mv v mo ns) (o : Obj) : Gr (w.alloc o) B g mi mv v mo ns := h.kept fun k hk => heap_alloc_old w _ hk

set_option maxHeartbeats 800000 in
theorem node_no {w : World} {B g mi mv mo : Nat} {v : Value} {ns : List Nd} (h : Gr w B g mi mv v mo ns) {i : Int} (hi : hasB ns.length i = false) :
    Calls Try.prog 15 #[.pointer (some ⟨g, 0, none⟩), .int .i64 i] w fun e w' => e = .returned (.tuple #[.agg #[.int .i64 0, .int .i64 0, .int .i64 0, .int .i64 0, .int .i64 0, .int .i64 0, .int .i64 0, .int .i64 0, .int .u64 0, .int .u64 0, .string ⟨#[]⟩], .bool false]) ∧ Below w.heap.size w w' := by
  have H : Hid (∀ wx, Gr wx B g mi mv v mo ns → Calls Try.prog 33 #[.pointer (some ⟨g, 0, none⟩), .int .i64 i] wx fun e w' => e = .returned (.bool false) ∧ w' = wx) := fun wx hx => by rw [← hi]; exact has_any hx i
  have HG : Hid _ := h
  clear h hi
  go_enter Try.func15, Try.ntmps15
  go_wp2_with fail
  refine (H.out _ (HG.out.alloc _)).mono ?_
  rintro e wz ⟨rfl, rfl⟩
  go_wp2_with fail
  refine bodyPost_ret (v := .tuple #[.agg #[.int .i64 0, .int .i64 0, .int .i64 0, .int .i64 0, .int .i64 0, .int .i64 0, .int .i64 0, .int .i64 0, .int .u64 0, .int .u64 0, .string ⟨#[]⟩], .bool false]) (by simp [results, Try.results15, go_sem]) rfl ?_
  exact ⟨rfl, by go_grown⟩

set_option maxHeartbeats 1600000 in
theorem node_yes {w : World} {B g mi mv mo : Nat} {v : Value} {ns : List Nd} (h : Gr w B g mi mv v mo ns) {i : Nat} {n : Nd} (hi : ns[i]? = some n) :
    Calls Try.prog 15 #[.pointer (some ⟨g, 0, none⟩), .int .i64 ((i : Int) + 1)] w fun e w' => e = .returned (.tuple #[.agg #[.int .i64 n.op, .int .i64 n.s, .int .i64 n.a, .int .i64 n.b, .int .i64 n.c, .int .i64 n.p, .int .i64 n.q, .int .i64 n.w, .int .u64 n.lo, .int .u64 n.hi, .string n.nm], .bool true]) ∧ Below w.heap.size w w' := by
  have hlt : i < ns.length := (List.getElem?_eq_some_iff.1 hi).1
  have hlen := h.len
  have H : Hid (∀ wx, Gr wx B g mi mv v mo ns → Calls Try.prog 33 #[.pointer (some ⟨g, 0, none⟩), .int .i64 ((i : Int) + 1)] wx fun e w' => e = .returned (.bool true) ∧ w' = wx) := fun wx hx => by
    have e : hasB ns.length ((i : Int) + 1) = true := by simp [hasB]; omega
    rw [← e]; exact has_any hx _
  have HG : Hid _ := h
  have c1 := h.c1
  have hg := h.lt
  obtain ⟨r, cap, rfl, hBr, ⟨cur, hr⟩, hc⟩ := row_at (mo := mo) h.row hi
  have hrl : r < w.heap.size := (Array.getElem?_eq_some_iff.1 hr).1
  have d0 : w.cell? ⟨r, i * 11, none⟩ = some (.int .i64 n.op) := hc 0 _ rfl
  have d1 := hc 1 _ rfl
  have d2 := hc 2 _ rfl
  have d3 := hc 3 _ rfl
  have d4 := hc 4 _ rfl
  have d5 := hc 5 _ rfl
  have d6 := hc 6 _ rfl
  have d7 := hc 7 _ rfl
  have d8 := hc 8 _ rfl
  have d9 := hc 9 _ rfl
  have d10 := hc 10 _ rfl
  clear hc hr hi
  have e1 : wrap64 (i : Int) = i := by unfold wrap64; omega
  have b1 : (i : Int) < (ns.length : Int) := by omega
  obtain ⟨N, hN⟩ : ∃ N, N = ns.length := ⟨_, rfl⟩
  rw [← hN] at c1 b1 hlt
  clear hN h hlen
  go_enter Try.func15, Try.ntmps15
  go_wp2_with fail
  refine (H.out _ (HG.out.alloc _)).mono ?_
  rintro e wz ⟨rfl, rfl⟩
  go_wp2_with fail
  refine bodyPost_ret (v := .tuple #[.agg #[.int .i64 n.op, .int .i64 n.s, .int .i64 n.a, .int .i64 n.b, .int .i64 n.c, .int .i64 n.p, .int .i64 n.q, .int .i64 n.w, .int .u64 n.lo, .int .u64 n.hi, .string n.nm], .bool true]) (by simp [results, Try.results15, go_sem]) rfl ?_
  exact ⟨rfl, by go_grown⟩
end Go.Proofs.Ytjmbicaacplolaa
