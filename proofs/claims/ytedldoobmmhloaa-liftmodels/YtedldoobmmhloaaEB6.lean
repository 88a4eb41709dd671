import Derived.Test.YtedldoobmmhloaaMg33
import Derived.Test.YtedldoobmmhloaaEA27
import Derived.Test.YtedldoobmmhloaaEA28
import Derived.Test.YtedldoobmmhloaaEA29
namespace Go.Proofs.Ytedldoobmmhloaa
open Go.RowKit
set_option linter.unusedSimpArgs false
set_option linter.unusedVariables false
def allr (l : List Bt) : Prop := ∀ b ∈ l, rgt b.w b.lo b.hi = true
def ApP (op p q : Int) (l : List Bt) (r : Bt) (er : Int) : Prop := ∀ wx gb o c, Lb wx gb o l → gb < wx.heap.size → Calls Try.prog 51 #[.int .i64 op, .int .i64 p, .int .i64 q, .slice (some ⟨gb, o, none⟩) l.length c] wx fun e w' => e = .returned (.tuple #[.agg #[.int .i64 r.w, .int .u64 r.lo, .int .u64 r.hi], .int .i64 er]) ∧ Below wx.heap.size wx w'
theorem srt_ok {op p q s : Int} {l : List Int} (h : srtF op p q l = (s, 0)) : (l.length : Int) = ari op ∧ fitB op p q l = true ∧ ans op p q l ≤ 128 ∧ s = ans op p q l := by
 unfold srtF at h
 split at h
 ·cases h
 ·split at h
  ·rename_i hc
   split at h
   ·rename_i ha; cases h; exact ⟨hc.1, hc.2, ha, rfl⟩
   ·cases h
  ·cases h
theorem bk_bT (x : Bool) : Bk (bT x) ∧ sof (bT x) = 0 := by
 cases x
 ·exact ⟨⟨by decide, by decide, by decide, by decide⟩, by decide⟩
 ·exact ⟨⟨by decide, by decide, by decide, by decide⟩, by decide⟩
theorem list1 {α : Type} {l : List α} (h : l.length = 1) : ∃ a, l = [a] := by
 match l, h with
 | [a], _ => exact ⟨a, rfl⟩
theorem list2 {α : Type} {l : List α} (h : l.length = 2) : ∃ a b, l = [a, b] := by
 match l, h with
 | [a, b], _ => exact ⟨a, b, rfl⟩
theorem list3 {α : Type} {l : List α} (h : l.length = 3) : ∃ a b c, l = [a, b, c] := by
 match l, h with
 | [a, b, c], _ => exact ⟨a, b, c, rfl⟩
theorem ans_two {op p q x y : Int} (o1 : 12 ≤ op) (o2 : op ≤ 37) : ans op p q [x, y] = if op ≤ 28 then x else if op ≤ 36 then 0 else 1 := by
 unfold ans
 by_cases h1 : op ≤ 28
 ·rw [if_neg (by omega), if_neg (by omega), if_neg (by omega), if_neg (by omega), if_neg (by omega), if_neg (by omega), if_neg (by omega), if_pos h1]; rfl
 ·by_cases h2 : op ≤ 36
  ·rw [if_pos (by omega), if_neg h1, if_pos h2]
  ·rw [if_neg (by omega), if_neg (by omega), if_pos (by omega), if_neg h1, if_neg h2]
theorem min_small {W : Nat} {p : Int} (h1 : 1 ≤ W) (hp : 1 ≤ p) (h : (W : Int) * min p 129 ≤ 128) : min p 129 = p := by
 by_cases h9 : p ≤ 129
 ·omega
 ·rw [show min p 129 = 129 by omega] at h; omega
theorem mul_small {W : Nat} {p : Int} (h1 : 1 ≤ W) (hp : 1 ≤ p) (h : (W : Int) * min p 129 ≤ 128) : W * p.toNat ≤ 128 := by
 by_cases h9 : p ≤ 129
 ·rw [show min p 129 = p by omega] at h
  have e : ((W * p.toNat : Nat) : Int) = (W : Int) * p := by rw [Int.natCast_mul, Int.toNat_of_nonneg (by omega)]
  omega
 ·rw [show min p 129 = 129 by omega] at h
  omega
theorem pr_3 {p q s : Int} {l : List Bt} (hk : ∀ b ∈ l, Bk b) (hl : l.length = 1) (hs : srtF 3 p q (l.map sof) = (s, 0)) : ∃ r, ApP 3 p q l r 0 ∧ Bk r ∧ sof r = s := by
 obtain ⟨a, rfl⟩ := list1 hl
 have ha := hk a (by simp)
 obtain ⟨-, hf, -, han⟩ := srt_ok hs
 simp [fitB, opf, alk, nft, srt] at hf
 have s1 : sof a = 0 := by omega
 have hs' : srtF 3 p q [sof a] = (s, 0) := hs
 exact ⟨bT (!tru a), fun wx gb o c h hg => apply_3 h hg ha hs', (bk_bT _).1, (bk_bT _).2.trans (by rw [han]; simp [ans]; omega)⟩
theorem pr_4 {p q s : Int} {l : List Bt} (hk : ∀ b ∈ l, Bk b) (hl : l.length = 2) (hs : srtF 4 p q (l.map sof) = (s, 0)) : ∃ r, ApP 4 p q l r 0 ∧ Bk r ∧ sof r = s := by
 obtain ⟨a, b, rfl⟩ := list2 hl
 have ha := hk a (by simp)
 have hb := hk b (by simp)
 obtain ⟨-, hf, -, han⟩ := srt_ok hs
 simp [fitB, opf, alk, nft, srt] at hf
 have s1 : sof a = 0 := by omega
 have s2 : sof b = 0 := by omega
 have hs' : srtF 4 p q [sof a, sof b] = (s, 0) := hs
 exact ⟨bT (tru a && tru b), fun wx gb o c h hg => apply_and h hg ha hb hs', (bk_bT _).1, (bk_bT _).2.trans (by rw [han]; simp [ans]; omega)⟩
theorem pr_5 {p q s : Int} {l : List Bt} (hk : ∀ b ∈ l, Bk b) (hl : l.length = 2) (hs : srtF 5 p q (l.map sof) = (s, 0)) : ∃ r, ApP 5 p q l r 0 ∧ Bk r ∧ sof r = s := by
 obtain ⟨a, b, rfl⟩ := list2 hl
 have ha := hk a (by simp)
 have hb := hk b (by simp)
 obtain ⟨-, hf, -, han⟩ := srt_ok hs
 simp [fitB, opf, alk, nft, srt] at hf
 have s1 : sof a = 0 := by omega
 have s2 : sof b = 0 := by omega
 have hs' : srtF 5 p q [sof a, sof b] = (s, 0) := hs
 exact ⟨bT (tru a || tru b), fun wx gb o c h hg => apply_or h hg ha hb hs', (bk_bT _).1, (bk_bT _).2.trans (by rw [han]; simp [ans]; omega)⟩
theorem pr_7 {p q s : Int} {l : List Bt} (hk : ∀ b ∈ l, Bk b) (hl : l.length = 2) (hs : srtF 7 p q (l.map sof) = (s, 0)) : ∃ r, ApP 7 p q l r 0 ∧ Bk r ∧ sof r = s := by
 obtain ⟨a, b, rfl⟩ := list2 hl
 have ha := hk a (by simp)
 have hb := hk b (by simp)
 obtain ⟨-, hf, -, han⟩ := srt_ok hs
 simp [fitB, opf, alk, nft, srt] at hf
 have s1 : sof a = 0 := by omega
 have s2 : sof b = 0 := by omega
 have hs' : srtF 7 p q [sof a, sof b] = (s, 0) := hs
 exact ⟨bT (!tru a || tru b), fun wx gb o c h hg => apply_imp h hg ha hb hs', (bk_bT _).1, (bk_bT _).2.trans (by rw [han]; simp [ans]; omega)⟩
theorem pr_6 {p q s : Int} {l : List Bt} (hk : ∀ b ∈ l, Bk b) (hl : l.length = 2) (hs : srtF 6 p q (l.map sof) = (s, 0)) : ∃ r, ApP 6 p q l r 0 ∧ Bk r ∧ sof r = s := by
 obtain ⟨a, b, rfl⟩ := list2 hl
 have ha := hk a (by simp)
 have hb := hk b (by simp)
 obtain ⟨-, hf, -, han⟩ := srt_ok hs
 simp [fitB, opf, alk, nft, srt] at hf
 have s1 : sof a = 0 := by omega
 have s2 : sof b = 0 := by omega
 have hs' : srtF 6 p q [sof a, sof b] = (s, 0) := hs
 exact ⟨bT (tru a != tru b), fun wx gb o c h hg => apply_xor h hg ha hb hs', (bk_bT _).1, (bk_bT _).2.trans (by rw [han]; simp [ans]; omega)⟩
theorem pr_8 {p q s : Int} {l : List Bt} (hk : ∀ b ∈ l, Bk b) (hl : l.length = 2) (hs : srtF 8 p q (l.map sof) = (s, 0)) : ∃ r, ApP 8 p q l r 0 ∧ Bk r ∧ sof r = s := by
 obtain ⟨a, b, rfl⟩ := list2 hl
 have ha := hk a (by simp)
 have hb := hk b (by simp)
 have hs' : srtF 8 p q [sof a, sof b] = (s, 0) := hs
 exact ⟨bT (eqT a b), fun wx gb o c h hg => apply_eq h hg ha hb hs', (bk_bT _).1, (bk_bT _).2.trans (by rw [(srt_ok hs).2.2.2]; simp [ans])⟩
theorem pr_9 {p q s : Int} {l : List Bt} (hk : ∀ b ∈ l, Bk b) (hl : l.length = 3) (hs : srtF 9 p q (l.map sof) = (s, 0)) : ∃ r, ApP 9 p q l r 0 ∧ Bk r ∧ sof r = s := by
 obtain ⟨a, b, d, rfl⟩ := list3 hl
 have ha := hk a (by simp)
 have hb := hk b (by simp)
 have hd := hk d (by simp)
 obtain ⟨-, hf, -, han⟩ := srt_ok hs
 simp [fitB, opf, alk, nft, srt] at hf
 have s1 : sof a = 0 := by omega
 have hs' : srtF 9 p q [sof a, sof b, sof d] = (s, 0) := hs
 exact ⟨if tru a then b else d, fun wx gb o c h hg => apply_ite h hg ha hb hd hs', by split <;> assumption, by rw [han]; simp only [ans]; split <;> simp <;> omega⟩
theorem pr_10 {p q s : Int} {l : List Bt} (hk : ∀ b ∈ l, Bk b) (hl : l.length = 1) (hs : srtF 10 p q (l.map sof) = (s, 0)) : ∃ r, ApP 10 p q l r 0 ∧ Bk r ∧ sof r = s := by
 obtain ⟨a, rfl⟩ := list1 hl
 have ha := hk a (by simp)
 obtain ⟨-, hf, han, hse⟩ := srt_ok hs
 simp [fitB, opf, alk, nft, srt] at hf
 simp [ans] at han hse
 have s1 : 1 ≤ sof a := by omega
 have hs' : srtF 10 p q [sof a] = (s, 0) := hs
 obtain ⟨W, n, h1, h2, hn, hW, hsW⟩ := word_is ha s1
 obtain ⟨r, c1, hbk, hsr⟩ : Fit _ _ _ := one_fit10 h1 h2 hn
 subst hW
 exact ⟨r, fun wx gb o c h hg => apply_10 h hg ha hs' c1, hbk, hsr.trans (by omega)⟩
theorem pr_11 {p q s : Int} {l : List Bt} (hk : ∀ b ∈ l, Bk b) (hl : l.length = 1) (hs : srtF 11 p q (l.map sof) = (s, 0)) : ∃ r, ApP 11 p q l r 0 ∧ Bk r ∧ sof r = s := by
 obtain ⟨a, rfl⟩ := list1 hl
 have ha := hk a (by simp)
 obtain ⟨-, hf, han, hse⟩ := srt_ok hs
 simp [fitB, opf, alk, nft, srt] at hf
 simp [ans] at han hse
 have s1 : 1 ≤ sof a := by omega
 have hs' : srtF 11 p q [sof a] = (s, 0) := hs
 obtain ⟨W, n, h1, h2, hn, hW, hsW⟩ := word_is ha s1
 obtain ⟨r, c1, hbk, hsr⟩ : Fit _ _ _ := one_fit11 h1 h2 hn
 subst hW
 exact ⟨r, fun wx gb o c h hg => apply_11 h hg ha hs' c1, hbk, hsr.trans (by omega)⟩
theorem pr_39 {p q s : Int} {l : List Bt} (hk : ∀ b ∈ l, Bk b) (hl : l.length = 1) (hs : srtF 39 p q (l.map sof) = (s, 0)) : ∃ r, ApP 39 p q l r 0 ∧ Bk r ∧ sof r = s := by
 obtain ⟨a, rfl⟩ := list1 hl
 have ha := hk a (by simp)
 obtain ⟨-, hf, han, hse⟩ := srt_ok hs
 simp [fitB, opf, alk, nft, srt] at hf
 simp [ans] at han hse
 have s1 : 1 ≤ sof a := by omega
 have hs' : srtF 39 p q [sof a] = (s, 0) := hs
 obtain ⟨W, n, h1, h2, hn, hW, hsW⟩ := word_is ha s1
 obtain ⟨r, c1, hbk, hsr⟩ : Fit _ _ _ := extract_fit (i := p) (j := q) h1 h2 hn (by omega)
 subst hW
 exact ⟨r, fun wx gb o c h hg => apply_39 h hg ha hs' c1, hbk, hsr.trans (by omega)⟩
theorem pr_40 {p q s : Int} {l : List Bt} (hk : ∀ b ∈ l, Bk b) (hl : l.length = 1) (hs : srtF 40 p q (l.map sof) = (s, 0)) : ∃ r, ApP 40 p q l r 0 ∧ Bk r ∧ sof r = s := by
 obtain ⟨a, rfl⟩ := list1 hl
 have ha := hk a (by simp)
 obtain ⟨-, hf, han, hse⟩ := srt_ok hs
 simp [fitB, opf, alk, nft, srt] at hf
 simp [ans] at han hse
 have s1 : 1 ≤ sof a := by omega
 have hs' : srtF 40 p q [sof a] = (s, 0) := hs
 obtain ⟨W, n, h1, h2, hn, hW, hsW⟩ := word_is ha s1
 obtain ⟨r, c1, hbk, hsr⟩ : Fit _ _ _ := extend_fit (i := p) false h1 h2 hn (by omega) (by omega)
 subst hW
 exact ⟨r, fun wx gb o c h hg => apply_40 h hg ha hs' c1, hbk, hsr.trans (by omega)⟩
theorem pr_41 {p q s : Int} {l : List Bt} (hk : ∀ b ∈ l, Bk b) (hl : l.length = 1) (hs : srtF 41 p q (l.map sof) = (s, 0)) : ∃ r, ApP 41 p q l r 0 ∧ Bk r ∧ sof r = s := by
 obtain ⟨a, rfl⟩ := list1 hl
 have ha := hk a (by simp)
 obtain ⟨-, hf, han, hse⟩ := srt_ok hs
 simp [fitB, opf, alk, nft, srt] at hf
 simp [ans] at han hse
 have s1 : 1 ≤ sof a := by omega
 have hs' : srtF 41 p q [sof a] = (s, 0) := hs
 obtain ⟨W, n, h1, h2, hn, hW, hsW⟩ := word_is ha s1
 obtain ⟨r, c1, hbk, hsr⟩ : Fit _ _ _ := extend_fit (i := p) true h1 h2 hn (by omega) (by omega)
 subst hW
 exact ⟨r, fun wx gb o c h hg => apply_41 h hg ha hs' c1, hbk, hsr.trans (by omega)⟩
theorem pr_42 {p q s : Int} {l : List Bt} (hk : ∀ b ∈ l, Bk b) (hl : l.length = 1) (hs : srtF 42 p q (l.map sof) = (s, 0)) (hp64 : p < 9223372036854775808) : ∃ r, ApP 42 p q l r 0 ∧ Bk r ∧ sof r = s := by
 obtain ⟨a, rfl⟩ := list1 hl
 have ha := hk a (by simp)
 obtain ⟨-, hf, han, hse⟩ := srt_ok hs
 simp [fitB, opf, alk, nft, srt] at hf
 simp [ans] at han hse
 have s1 : 1 ≤ sof a := by omega
 have hs' : srtF 42 p q [sof a] = (s, 0) := hs
 obtain ⟨W, n, h1, h2, hn, hW, hsW⟩ := word_is ha s1
 obtain ⟨r, c1, hbk, hsr⟩ : Fit _ _ _ := rotate_fit (i := p) true h1 h2 hn (by omega) hp64
 subst hW
 exact ⟨r, fun wx gb o c h hg => apply_42 h hg ha hs' c1, hbk, hsr.trans (by omega)⟩
theorem pr_43 {p q s : Int} {l : List Bt} (hk : ∀ b ∈ l, Bk b) (hl : l.length = 1) (hs : srtF 43 p q (l.map sof) = (s, 0)) (hp64 : p < 9223372036854775808) : ∃ r, ApP 43 p q l r 0 ∧ Bk r ∧ sof r = s := by
 obtain ⟨a, rfl⟩ := list1 hl
 have ha := hk a (by simp)
 obtain ⟨-, hf, han, hse⟩ := srt_ok hs
 simp [fitB, opf, alk, nft, srt] at hf
 simp [ans] at han hse
 have s1 : 1 ≤ sof a := by omega
 have hs' : srtF 43 p q [sof a] = (s, 0) := hs
 obtain ⟨W, n, h1, h2, hn, hW, hsW⟩ := word_is ha s1
 obtain ⟨r, c1, hbk, hsr⟩ : Fit _ _ _ := rotate_fit (i := p) false h1 h2 hn (by omega) hp64
 subst hW
 exact ⟨r, fun wx gb o c h hg => apply_43 h hg ha hs' c1, hbk, hsr.trans (by omega)⟩
theorem pr_44 {p q s : Int} {l : List Bt} (hk : ∀ b ∈ l, Bk b) (hl : l.length = 1) (hs : srtF 44 p q (l.map sof) = (s, 0)) : ∃ r, ApP 44 p q l r 0 ∧ Bk r ∧ sof r = s := by
 obtain ⟨a, rfl⟩ := list1 hl
 have ha := hk a (by simp)
 obtain ⟨-, hf, han, hse⟩ := srt_ok hs
 simp [fitB, opf, alk, nft, srt] at hf
 simp [ans] at han hse
 have s1 : 1 ≤ sof a := by omega
 have hs' : srtF 44 p q [sof a] = (s, 0) := hs
 obtain ⟨W, n, h1, h2, hn, hW, hsW⟩ := word_is ha s1
 obtain ⟨r, c1, hbk, hsr⟩ : Fit _ _ _ := repeat_fit (i := p) h1 h2 hn (by omega) (mul_small h1 hf.2.1 (by rw [← hsW]; exact han))
 subst hW
 exact ⟨r, fun wx gb o c h hg => apply_44 h hg ha hs' c1, hbk, hsr.trans (by rw [hse, hsW]; rw [show min p 129 = p from min_small h1 hf.2.1 (by rw [← hsW]; exact han)])⟩
theorem pr_38 {p q s : Int} {l : List Bt} (hk : ∀ b ∈ l, Bk b) (hl : l.length = 2) (hs : srtF 38 p q (l.map sof) = (s, 0)) : ∃ r, ApP 38 p q l r 0 ∧ Bk r ∧ sof r = s := by
 obtain ⟨a, b, rfl⟩ := list2 hl
 have ha := hk a (by simp)
 have hb := hk b (by simp)
 obtain ⟨-, hf, han, hse⟩ := srt_ok hs
 simp [fitB, opf, alk, nft, srt] at hf
 simp [ans] at han hse
 have s1 : 1 ≤ sof a := by omega
 have s2 : 1 ≤ sof b := by omega
 have hs' : srtF 38 p q [sof a, sof b] = (s, 0) := hs
 obtain ⟨W, n, h1, h2, hn, hW, hsW⟩ := word_is ha s1
 obtain ⟨V, m, k1, k2, hm, hV, hsV⟩ := word_is hb s2
 obtain ⟨r, c1, hbk, hsr⟩ : Fit _ _ _ := concat_fit h1 h2 hn k1 k2 hm (by omega)
 subst hW hV
 exact ⟨r, fun wx gb o c h hg => apply_38 h hg ha hb hs' c1, hbk, hsr.trans (by omega)⟩
theorem pr_two {op p q s : Int} {l : List Bt} (hk : ∀ b ∈ l, Bk b) (hl : l.length = 2) (hs : srtF op p q (l.map sof) = (s, 0)) (o1 : 12 ≤ op) (o2 : op ≤ 37) : ∃ r, ApP op p q l r 0 ∧ Bk r ∧ sof r = s := by
 obtain ⟨a, b, rfl⟩ := list2 hl
 have ha := hk a (by simp)
 have hb := hk b (by simp)
 obtain ⟨-, hf, han, hse⟩ := srt_ok hs
 have hopf : opf op [sof a, sof b] = (!decide (sof a = 0) && alk [sof a, sof b]) := by
  unfold opf
  rw [if_neg (by omega), if_neg (by omega), if_neg (by omega), if_neg (by omega)]; rfl
 have hf' : ([sof a, sof b].all srt && opf op [sof a, sof b] && nft op p q (sof a)) = true := hf
 rw [hopf] at hf'
 simp [alk, srt] at hf'
 have s1 : 1 ≤ sof a := by omega
 have s2 : 1 ≤ sof b := by omega
 have hs' : srtF op p q [sof a, sof b] = (s, 0) := hs
 obtain ⟨W, n, h1, h2, hn, hW, hsW⟩ := word_is ha s1
 obtain ⟨V, m, k1, k2, hm, hV, hsV⟩ := word_is hb s2
 obtain rfl : V = W := by omega
 obtain ⟨r, c1, hbk, hsr⟩ : Fit _ _ _ := two_fit h1 h2 hn hm o1 o2
 subst hW hV
 exact ⟨r, fun wx gb o c h hg => apply_two o1 o2 h hg ha hb hs' c1, hbk, hsr.trans (by rw [hse]; show tws op _ = ans op p q [sof _, sof _]; rw [ans_two o1 o2]; unfold tws; rw [hsW])⟩
theorem pr_all {op p q s : Int} {l : List Bt} (hk : ∀ b ∈ l, Bk b) (hp64 : p < 9223372036854775808) (h1 : 1 ≤ ari op) (hs : srtF op p q (l.map sof) = (s, 0)) : ∃ r, ApP op p q l r 0 ∧ Bk r ∧ sof r = s := by
 have hlen := (srt_ok hs).1
 rw [List.length_map] at hlen
 have hr := ari_range h1
 by_cases ho : 12 ≤ op ∧ op ≤ 37
 ·have e : ari op = 2 := by unfold ari; rw [if_neg (by omega), if_neg (by omega), if_neg (by omega), if_neg (by omega)]
  exact pr_two hk (by omega) hs ho.1 ho.2
 ·have hx : op = 3 ∨ op = 4 ∨ op = 5 ∨ op = 6 ∨ op = 7 ∨ op = 8 ∨ op = 9 ∨ op = 10 ∨ op = 11 ∨ op = 38 ∨ op = 39 ∨ op = 40 ∨ op = 41 ∨ op = 42 ∨ op = 43 ∨ op = 44 := by omega
  rcases hx with rfl | rfl | rfl | rfl | rfl | rfl | rfl | rfl | rfl | rfl | rfl | rfl | rfl | rfl | rfl | rfl
  ·exact pr_3 hk (by rw [show ari 3 = 1 by decide] at hlen; omega) hs
  ·exact pr_4 hk (by rw [show ari 4 = 2 by decide] at hlen; omega) hs
  ·exact pr_5 hk (by rw [show ari 5 = 2 by decide] at hlen; omega) hs
  ·exact pr_6 hk (by rw [show ari 6 = 2 by decide] at hlen; omega) hs
  ·exact pr_7 hk (by rw [show ari 7 = 2 by decide] at hlen; omega) hs
  ·exact pr_8 hk (by rw [show ari 8 = 2 by decide] at hlen; omega) hs
  ·exact pr_9 hk (by rw [show ari 9 = 3 by decide] at hlen; omega) hs
  ·exact pr_10 hk (by rw [show ari 10 = 1 by decide] at hlen; omega) hs
  ·exact pr_11 hk (by rw [show ari 11 = 1 by decide] at hlen; omega) hs
  ·exact pr_38 hk (by rw [show ari 38 = 2 by decide] at hlen; omega) hs
  ·exact pr_39 hk (by rw [show ari 39 = 1 by decide] at hlen; omega) hs
  ·exact pr_40 hk (by rw [show ari 40 = 1 by decide] at hlen; omega) hs
  ·exact pr_41 hk (by rw [show ari 41 = 1 by decide] at hlen; omega) hs
  ·exact pr_42 hk (by rw [show ari 42 = 1 by decide] at hlen; omega) hs hp64
  ·exact pr_43 hk (by rw [show ari 43 = 1 by decide] at hlen; omega) hs hp64
  ·exact pr_44 hk (by rw [show ari 44 = 1 by decide] at hlen; omega) hs
theorem apply_pair {op p q : Int} {l : List Bt} (hk : ∀ b ∈ l, Bk b) (hl : l.length ≤ 8) (hne : l ≠ []) (hp64 : p < 9223372036854775808) : ∃ r er, ApP op p q l r er ∧ (er = 0 → ∃ s, srtF op p q (l.map sof) = (s, 0)) := by
 obtain ⟨s, e, hse⟩ : ∃ s e, srtF op p q (l.map sof) = (s, e) := ⟨_, _, rfl⟩
 by_cases he : e = 0
 ·subst he
  have h1 : 1 ≤ ari op := by
   have := (srt_ok hse).1
   rw [List.length_map] at this
   have := List.length_pos_iff.2 hne
   omega
  obtain ⟨r, c1, -⟩ := pr_all hk hp64 h1 hse
  exact ⟨r, 0, c1, fun _ => ⟨s, hse⟩⟩
 ·exact ⟨zBt, e, fun wx gb o c h hg => apply_err h hg hk hl hne hse he, fun h => absurd h he⟩
end Go.Proofs.Ytedldoobmmhloaa
