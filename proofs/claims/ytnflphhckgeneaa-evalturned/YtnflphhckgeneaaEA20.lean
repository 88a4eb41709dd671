/- Operators that don't ask for the order; choices. (Made by a script.) -/
import Derived.Test.YtnflphhckgeneaaEA18
namespace Go.Proofs.Ytnflphhckgeneaa
open Go.RowKit
set_option linter.unusedSimpArgs false
set_option linter.unusedVariables false

/-- Apply of these values answers this, in whatever world. -/
def Ap (op : Int) (l : List Bt) (r : Bt) (er : Int) : Prop := ∀ wx gb c, Lb wx gb 0 l → gb < wx.heap.size → Calls Try.prog 5 #[.int .i64 op, .int .i64 0, .int .i64 0, .slice (some ⟨gb, 0, none⟩) l.length c] wx fun e w' => e = .returned (.tuple #[.agg #[.int .i64 r.w, .int .u64 r.lo, .int .u64 r.hi], .int .i64 er]) ∧ Below wx.heap.size wx w'
theorem s_of2 {op x y s : Int} {P : Prop} [Decidable P] (ha : ari op = 2) (hf : fitB op 0 0 [x, y] = true ↔ P) (hs : P → ans op 0 0 [x, y] = s ∧ s ≤ 128) : srtF op 0 0 [x, y] = if P then (s, 0) else (0, 30) := by
  unfold srtF
  rw [if_neg (by rw [ha]; decide)]
  by_cases h : P
  · obtain ⟨h1, h2⟩ := hs h
    rw [if_pos h, if_pos ⟨by rw [ha]; rfl, hf.2 h⟩, h1, if_pos h2]
  · rw [if_neg h, if_neg (fun q => h (hf.1 q.2))]
theorem s_bool {op x y : Int} (h : op = 4 ∨ op = 5 ∨ op = 6) : srtF op 0 0 [x, y] = if x = 0 ∧ y = 0 then (0, 0) else (0, 30) := by
  refine s_of2 (by rcases h with rfl | rfl | rfl <;> decide) ?_ (fun q => ?_)
  · rcases h with rfl | rfl | rfl <;> simp [fitB, opf, alk, nft, srt] <;> omega
  · obtain ⟨rfl, rfl⟩ := q
    rcases h with rfl | rfl | rfl <;> decide
theorem s_eq {x y : Int} : srtF 8 0 0 [x, y] = if 0 ≤ x ∧ x ≤ 128 ∧ y = x then (0, 0) else (0, 30) := by
  refine s_of2 (by decide) ?_ (fun q => ⟨by simp [ans], by decide⟩)
  simp [fitB, opf, alk, nft, srt] <;> omega
theorem s_word {op x y : Int} (h : op = 12 ∨ op = 13 ∨ op = 14 ∨ op = 15 ∨ op = 16 ∨ op = 17 ∨ op = 18 ∨ op = 20) : srtF op 0 0 [x, y] = if 1 ≤ x ∧ x ≤ 128 ∧ y = x then (x, 0) else (0, 30) := by
  refine s_of2 (by rcases h with rfl | rfl | rfl | rfl | rfl | rfl | rfl | rfl <;> decide) ?_ (fun q => ⟨by rcases h with rfl | rfl | rfl | rfl | rfl | rfl | rfl | rfl <;> simp [ans], q.2.1⟩)
  rcases h with rfl | rfl | rfl | rfl | rfl | rfl | rfl | rfl <;> simp [fitB, opf, alk, nft, srt] <;> omega
theorem s_comp {x y : Int} : srtF 37 0 0 [x, y] = if 1 ≤ x ∧ x ≤ 128 ∧ y = x then (1, 0) else (0, 30) := by
  refine s_of2 (by decide) ?_ (fun q => ⟨by simp [ans], by decide⟩)
  simp [fitB, opf, alk, nft, srt] <;> omega
theorem s_ite {x y z : Int} : srtF 9 0 0 [x, y, z] = if x = 0 ∧ 0 ≤ y ∧ y ≤ 128 ∧ z = y then (y, 0) else (0, 30) := by
  have hf : fitB 9 0 0 [x, y, z] = true ↔ (x = 0 ∧ 0 ≤ y ∧ y ≤ 128 ∧ z = y) := by simp [fitB, opf, alk, nft, srt] <;> omega
  unfold srtF
  rw [if_neg (by decide)]
  by_cases h : x = 0 ∧ 0 ≤ y ∧ y ≤ 128 ∧ z = y
  · rw [if_pos h, if_pos ⟨by rfl, hf.2 h⟩, show ans 9 0 0 [x, y, z] = y by simp [ans], if_pos h.2.2.1]
  · rw [if_neg h, if_neg (fun q => h (hf.1 q.2))]
theorem wd_of {b : Bt} (hk : Bk b) {W : Int} (h : sof b = W) (h1 : 1 ≤ W) : W ≤ 128 ∧ ∃ n, Wd b.w b.lo b.hi W.toNat n := by
  unfold sof at h
  split at h
  · rename_i hr
    subst h
    unfold rgt at hr
    have h0 : ¬ b.w = 0 := by omega
    simp only [h0, if_false, Bool.and_eq_true, decide_eq_true_eq] at hr
    obtain ⟨⟨r1, r2⟩, r3⟩ := hr
    have a1 := hk.l0
    have a2 := hk.l1
    have a3 := hk.h0
    have a4 := hk.h1
    refine ⟨r2, (b.lo + 18446744073709551616 * b.hi).toNat, ⟨by omega, by omega, ?_, by omega, by unfold LO; omega, by unfold HI; omega⟩⟩
    have e2 : ((2 : Int) ^ b.w.toNat) = ((2 ^ b.w.toNat : Nat) : Int) := by simp
    rw [e2] at r3
    omega
  · omega
theorem ap_err {op : Int} {l : List Bt} (hk : ∀ b ∈ l, Bk b) (hl : l.length ≤ 8) (hne : l ≠ []) (hs : srtF op 0 0 (l.map sof) = (0, 30)) : Ap op l zBt 30 := fun wx gb c h hg => apply_err h hg hk hl hne hs (by decide)
theorem bk2s {a b : Bt} (ha : Bk a) (hb : Bk b) : ∀ x ∈ [a, b], Bk x := fun x hx => by
  rcases List.mem_cons.1 hx with rfl | hx
  · exact ha
  · rw [List.mem_singleton.1 hx]; exact hb
theorem bk3s {a b c : Bt} (ha : Bk a) (hb : Bk b) (hc : Bk c) : ∀ x ∈ [a, b, c], Bk x := fun x hx => by
  rcases List.mem_cons.1 hx with rfl | hx
  · exact ha
  · exact bk2s hb hc x hx
def TwoR (op : Int) (a b r : Bt) : Prop := ∀ wx, Calls Try.prog 50 #[.int .i64 op, .agg #[.int .i64 a.w, .int .u64 a.lo, .int .u64 a.hi], .agg #[.int .i64 b.w, .int .u64 b.lo, .int .u64 b.hi]] wx fun e w' => e = .returned (.tuple #[.agg #[.int .i64 r.w, .int .u64 r.lo, .int .u64 r.hi], .int .i64 0]) ∧ Below wx.heap.size wx w'
theorem turned_w {op : Int} {a b : Bt} {f : Int → Int} (ha : Bk a) (hb : Bk b) (h1 : 12 ≤ op) (h2 : op ≤ 37) (hs : ∀ x y, srtF op 0 0 [x, y] = if 1 ≤ x ∧ x ≤ 128 ∧ y = x then (f x, 0) else (0, 30))
    (HT : ∀ W n m, Wd a.w a.lo a.hi W n → Wd b.w b.lo b.hi W m → ∃ r, TwoR op a b r ∧ TwoR op b a r) : ∃ r er, Ap op [a, b] r er ∧ Ap op [b, a] r er := by
  by_cases h : 1 ≤ sof a ∧ sof a ≤ 128 ∧ sof b = sof a
  · obtain ⟨-, n, hn⟩ := wd_of ha rfl h.1
    obtain ⟨-, m, hm⟩ := wd_of hb h.2.2 h.1
    obtain ⟨r, c1, c2⟩ := HT _ n m hn hm
    refine ⟨r, 0, fun wx gb c hl hg => apply_two h1 h2 hl hg ha hb (by rw [hs, if_pos h]) c1, fun wx gb c hl hg => apply_two h1 h2 hl hg hb ha (by rw [hs, if_pos (by omega)]) c2⟩
  · refine ⟨zBt, 30, ap_err (bk2s ha hb) (by simp) (by simp) (by show srtF op 0 0 [sof a, sof b] = _; rw [hs, if_neg h]), ap_err (bk2s hb ha) (by simp) (by simp) (by show srtF op 0 0 [sof b, sof a] = _; rw [hs, if_neg (by omega)])⟩
theorem eqB_comm (n m : Nat) : eqB m n = eqB n m := by unfold eqB; exact decide_eq_decide.2 eq_comm
theorem turned {op : Int} {a b : Bt} (ha : Bk a) (hb : Bk b) (hop : op = 4 ∨ op = 5 ∨ op = 6 ∨ op = 8 ∨ op = 12 ∨ op = 13 ∨ op = 14 ∨ op = 15 ∨ op = 16 ∨ op = 17 ∨ op = 18 ∨ op = 20 ∨ op = 37) : ∃ r er, Ap op [a, b] r er ∧ Ap op [b, a] r er := by
  rcases hop with rfl | rfl | rfl | rfl | rfl | rfl | rfl | rfl | rfl | rfl | rfl | rfl | rfl
  · by_cases h : sof a = 0 ∧ sof b = 0
    · refine ⟨bT (tru a && tru b), 0, fun wx gb c hl hg => apply_and (s := 0) hl hg ha hb (by rw [s_bool (by decide), if_pos h]), fun wx gb c hl hg => ?_⟩
      have h1 := apply_and (s := 0) (c := c) (p := 0) (q := 0) hl hg hb ha (by rw [s_bool (by decide), if_pos ⟨h.2, h.1⟩])
      rw [show (tru b && tru a) = (tru a && tru b) by cases tru a <;> cases tru b <;> rfl] at h1
      exact h1
    · exact ⟨zBt, 30, ap_err (bk2s ha hb) (by simp) (by simp) (by show srtF 4 0 0 [sof a, sof b] = _; rw [s_bool (by decide), if_neg h]), ap_err (bk2s hb ha) (by simp) (by simp) (by show srtF 4 0 0 [sof b, sof a] = _; rw [s_bool (by decide), if_neg (fun q => h ⟨q.2, q.1⟩)])⟩
  · by_cases h : sof a = 0 ∧ sof b = 0
    · refine ⟨bT (tru a || tru b), 0, fun wx gb c hl hg => apply_or (s := 0) hl hg ha hb (by rw [s_bool (by decide), if_pos h]), fun wx gb c hl hg => ?_⟩
      have h1 := apply_or (s := 0) (c := c) (p := 0) (q := 0) hl hg hb ha (by rw [s_bool (by decide), if_pos ⟨h.2, h.1⟩])
      rw [show (tru b || tru a) = (tru a || tru b) by cases tru a <;> cases tru b <;> rfl] at h1
      exact h1
    · exact ⟨zBt, 30, ap_err (bk2s ha hb) (by simp) (by simp) (by show srtF 5 0 0 [sof a, sof b] = _; rw [s_bool (by decide), if_neg h]), ap_err (bk2s hb ha) (by simp) (by simp) (by show srtF 5 0 0 [sof b, sof a] = _; rw [s_bool (by decide), if_neg (fun q => h ⟨q.2, q.1⟩)])⟩
  · by_cases h : sof a = 0 ∧ sof b = 0
    · refine ⟨bT (tru a != tru b), 0, fun wx gb c hl hg => apply_xor (s := 0) hl hg ha hb (by rw [s_bool (by decide), if_pos h]), fun wx gb c hl hg => ?_⟩
      have h1 := apply_xor (s := 0) (c := c) (p := 0) (q := 0) hl hg hb ha (by rw [s_bool (by decide), if_pos ⟨h.2, h.1⟩])
      rw [show (tru b != tru a) = (tru a != tru b) by cases tru a <;> cases tru b <;> rfl] at h1
      exact h1
    · exact ⟨zBt, 30, ap_err (bk2s ha hb) (by simp) (by simp) (by show srtF 6 0 0 [sof a, sof b] = _; rw [s_bool (by decide), if_neg h]), ap_err (bk2s hb ha) (by simp) (by simp) (by show srtF 6 0 0 [sof b, sof a] = _; rw [s_bool (by decide), if_neg (fun q => h ⟨q.2, q.1⟩)])⟩
  · by_cases h : 0 ≤ sof a ∧ sof a ≤ 128 ∧ sof b = sof a
    · refine ⟨bT (eqT a b), 0, fun wx gb c hl hg => apply_eq (s := 0) hl hg ha hb (by rw [s_eq, if_pos h]), fun wx gb c hl hg => ?_⟩
      have h1 := apply_eq (s := 0) (c := c) (p := 0) (q := 0) hl hg hb ha (by rw [s_eq, if_pos (by omega)])
      rw [show eqT b a = eqT a b by unfold eqT; rw [show decide (b.w = a.w) = decide (a.w = b.w) by simp [eq_comm], show decide (b.lo = a.lo) = decide (a.lo = b.lo) by simp [eq_comm], show decide (b.hi = a.hi) = decide (a.hi = b.hi) by simp [eq_comm]]] at h1
      exact h1
    · exact ⟨zBt, 30, ap_err (bk2s ha hb) (by simp) (by simp) (by show srtF 8 0 0 [sof a, sof b] = _; rw [s_eq, if_neg h]), ap_err (bk2s hb ha) (by simp) (by simp) (by show srtF 8 0 0 [sof b, sof a] = _; rw [s_eq, if_neg (by omega)])⟩
  · refine turned_w (f := id) ha hb (by decide) (by decide) (fun x y => s_word (by decide)) (fun W n m hn hm => ⟨⟨W, LO (n &&& m), HI (n &&& m)⟩, fun wx => two_and hn hm wx, fun wx => ?_⟩)
    have h1 := two_and hm hn wx
    rw [Nat.and_comm m n] at h1
    exact h1
  · refine turned_w (f := id) ha hb (by decide) (by decide) (fun x y => s_word (by decide)) (fun W n m hn hm => ⟨⟨W, LO (n ||| m), HI (n ||| m)⟩, fun wx => two_or hn hm wx, fun wx => ?_⟩)
    have h1 := two_or hm hn wx
    rw [Nat.or_comm m n] at h1
    exact h1
  · refine turned_w (f := id) ha hb (by decide) (by decide) (fun x y => s_word (by decide)) (fun W n m hn hm => ⟨⟨W, LO (n ^^^ m), HI (n ^^^ m)⟩, fun wx => two_xor hn hm wx, fun wx => ?_⟩)
    have h1 := two_xor hm hn wx
    rw [Nat.xor_comm m n] at h1
    exact h1
  · refine turned_w (f := id) ha hb (by decide) (by decide) (fun x y => s_word (by decide)) (fun W n m hn hm => ⟨⟨W, LO (2 ^ W - 1 - (n &&& m)), HI (2 ^ W - 1 - (n &&& m))⟩, fun wx => two_nand hn hm wx, fun wx => ?_⟩)
    have h1 := two_nand hm hn wx
    rw [Nat.and_comm m n] at h1
    exact h1
  · refine turned_w (f := id) ha hb (by decide) (by decide) (fun x y => s_word (by decide)) (fun W n m hn hm => ⟨⟨W, LO (2 ^ W - 1 - (n ||| m)), HI (2 ^ W - 1 - (n ||| m))⟩, fun wx => two_nor hn hm wx, fun wx => ?_⟩)
    have h1 := two_nor hm hn wx
    rw [Nat.or_comm m n] at h1
    exact h1
  · refine turned_w (f := id) ha hb (by decide) (by decide) (fun x y => s_word (by decide)) (fun W n m hn hm => ⟨⟨W, LO (2 ^ W - 1 - (n ^^^ m)), HI (2 ^ W - 1 - (n ^^^ m))⟩, fun wx => two_xnor hn hm wx, fun wx => ?_⟩)
    have h1 := two_xnor hm hn wx
    rw [Nat.xor_comm m n] at h1
    exact h1
  · refine turned_w (f := id) ha hb (by decide) (by decide) (fun x y => s_word (by decide)) (fun W n m hn hm => ⟨⟨W, LO ((n + m) % 2 ^ W), HI ((n + m) % 2 ^ W)⟩, fun wx => two_add hn hm wx, fun wx => ?_⟩)
    have h1 := two_add hm hn wx
    rw [Nat.add_comm m n] at h1
    exact h1
  · refine turned_w (f := id) ha hb (by decide) (by decide) (fun x y => s_word (by decide)) (fun W n m hn hm => ⟨⟨W, LO (n * m % 2 ^ W), HI (n * m % 2 ^ W)⟩, fun wx => two_mul hn hm wx, fun wx => ?_⟩)
    have h1 := two_mul hm hn wx
    rw [Nat.mul_comm m n] at h1
    exact h1
  · refine turned_w (f := fun _ => 1) ha hb (by decide) (by decide) (fun x y => s_comp) (fun W n m hn hm => ⟨⟨1, LO (b01 (eqB n m)), HI (b01 (eqB n m))⟩, fun wx => two_comp rfl hn hm wx, fun wx => two_comp (eqB_comm n m) hm hn wx⟩)
theorem ite_any {a b d : Bt} (ha : Bk a) (hb : Bk b) (hd : Bk d) : ∃ r er, Ap 9 [a, b, d] r er ∧ ((er = 0 ∧ r = (if tru a then b else d) ∧ sof a = 0 ∧ 0 ≤ sof b ∧ sof b ≤ 128 ∧ sof d = sof b) ∨ (er = 30 ∧ ¬ (sof a = 0 ∧ 0 ≤ sof b ∧ sof b ≤ 128 ∧ sof d = sof b))) := by
  by_cases h : sof a = 0 ∧ 0 ≤ sof b ∧ sof b ≤ 128 ∧ sof d = sof b
  · exact ⟨_, 0, fun wx gb c hl hg => apply_ite (s := sof b) hl hg ha hb hd (by rw [s_ite, if_pos h]), Or.inl ⟨rfl, rfl, h⟩⟩
  · exact ⟨zBt, 30, ap_err (bk3s ha hb hd) (by simp) (by simp) (by show srtF 9 0 0 [sof a, sof b, sof d] = _; rw [s_ite, if_neg h]), Or.inr ⟨rfl, h⟩⟩
theorem bool_of {c : Bt} (h : sof c = 0) : c.w = 0 ∧ (c.lo = 0 ∨ c.lo = 1) ∧ c.hi = 0 := by
  unfold sof at h
  split at h
  · rename_i hr
    unfold rgt at hr
    simp only [h, if_true, Bool.and_eq_true, Bool.or_eq_true, decide_eq_true_eq] at hr
    omega
  · omega
end Go.Proofs.Ytnflphhckgeneaa
