/- A region that draws its order, each operation looked at once: in whatever state it comes up, those that it waits for having come up. -/
import Derived.Deep.RegionHeld3
namespace Go.Proofs.YtkmkmgnfolpphaaDoor
open Go

section
variable {P : Program} {ops : Array Oper} {Q : Exit → Act → World → Prop}

theorem count_set {l : Array Bool} {i : Nat} (h : l.getD i true = false) : (l.setIfInBounds i true).toList.count false + 1 = l.toList.count false := by
  obtain ⟨l⟩ := l
  simp only [List.setIfInBounds_toArray]
  have h' : l[i]? = some false := by
    simp at h
    cases e : l[i]? with
    | none => simp [e] at h
    | some x => simp [e] at h; rw [h]
  clear h
  induction l generalizing i with
  | nil => simp at h'
  | cons x l ih =>
    cases i with
    | zero => simp at h'; subst h'; simp
    | succ i => simp at h'; have := ih h'; simp [List.count_cons] at *; omega

theorem ready_nil {md : Region.Mode} {l : Array Bool} (hc : l.toList.count false = 0) : Region.ready md ops l = [] := by
  rw [List.eq_nil_iff_forall_not_mem]
  intro i hi
  obtain ⟨h0, -⟩ := mem_ready.1 hi
  have := count_set h0
  omega

theorem wpAny_inv {md : Region.Mode} (I : Array Bool → Act → World → Prop)
    (hs : ∀ l a w i, l.size = ops.size → I l a w → i ∈ Region.ready md ops l → wpOp P ops Q i (fun a' w' => I (l.setIfInBounds i true) a' w') a w)
    (he : ∀ l a w, l.size = ops.size → I l a w → Region.ready md ops l = [] → Q .normal a w) :
    ∀ (fuel : Nat) (l : Array Bool) (a : Act) (w : World), l.size = ops.size → l.toList.count false ≤ fuel → I l a w → wpAny P md ops Q fuel l a w
  | 0, l, a, w, hz, hc, hI => ⟨ready_nil (by omega), he l a w hz hI (ready_nil (by omega))⟩
  | fuel + 1, l, a, w, hz, hc, hI =>
    ⟨he l a w hz hI, fun i hi => wpOp_mono (fun a' w' h => wpAny_inv I hs he fuel _ a' w' (by simp [hz])
      (by have := count_set (mem_ready.1 hi).1; omega) h) (hs l a w i hz hI hi)⟩

/-- No operation waits for one behind it. -/
def Topo (ops : Array Oper) : Bool := (List.range ops.size).all fun i => match ops[i]? with
  | some o => o.after.all fun e => !Region.binds .any e || decide (e.on < i)
  | none => true

theorem all_of_ready {l : Array Bool} (ht : Topo ops = true) (hz : l.size = ops.size) (hr : Region.ready .any ops l = []) :
    ∀ i, i < ops.size → l.getD i false = true := by
  intro i
  induction i using Nat.strongRecOn with
  | _ i ih =>
    intro hi
    have hi' : i < l.size := by omega
    by_cases h : l.getD i true = false
    · exfalso
      have hm : i ∈ Region.ready .any ops l := by
        rw [mem_ready]
        refine ⟨h, ops[i], by simp [hi], fun e he hb => ?_⟩
        have h1 := List.all_eq_true.1 ht i (List.mem_range.2 hi)
        simp only [Array.getElem?_eq_getElem hi] at h1
        have h2 := Array.all_eq_true_iff_forall_mem.1 h1 e he
        have h3 : e.on < i := by simpa [hb] using h2
        exact ih e.on h3 (by omega)
      rw [hr] at hm; cases hm
    · simp [hi'] at h ⊢; exact h

/-- The choice of block numbers, turned at one place. -/
structure Known (ops : Array Oper) (a0 : Act) (vs : List ((Nat → Nat) → Value)) (g : Nat → Nat) (L : Nat → Bool) (a : Act) : Prop where
  defers : a.defers = a0.defers
  size : a.tmps.size = a0.tmps.size
  old : ∀ t, (ops.all fun o => o.dst != some t) = true → a.tmps[t]? = a0.tmps[t]?
  new : ∀ (k : Nat) (o : Oper) (t : Tmp) (v : (Nat → Nat) → Value), ops.toList[k]? = some o → o.dst = some t → vs[k]? = some v → L k = true → a.tmps[t]? = some (v g)
  pend : ∀ t, (∀ (k : Nat) (o : Oper), ops.toList[k]? = some o → o.dst = some t → L k = false) → a.tmps[t]? = a0.tmps[t]?

/-- The same, the values told from the last one back. -/
structure KnownR (ops : Array Oper) (a0 : Act) (rs : List ((Nat → Nat) → Value)) (g : Nat → Nat) (L : Nat → Bool) (a : Act) : Prop where
  defers : a.defers = a0.defers
  size : a.tmps.size = a0.tmps.size
  old : ∀ t, (ops.all fun o => o.dst != some t) = true → a.tmps[t]? = a0.tmps[t]?
  new : ∀ (k j : Nat) (o : Oper) (t : Tmp) (v : (Nat → Nat) → Value), ops.toList[k]? = some o → o.dst = some t → rs[j]? = some v → (j + k + 1 == rs.length) = true → L k = true → a.tmps[t]? = some (v g)
  pend : ∀ t, (∀ (k : Nat) (o : Oper), ops.toList[k]? = some o → o.dst = some t → L k = false) → a.tmps[t]? = a0.tmps[t]?
  cl : ∀ k o, ops[k]? = some o → L k = true → ∀ e ∈ o.after, Region.binds .any e = true → L e.on = true

def updB (L : Nat → Bool) (i : Nat) : Nat → Bool := fun k => if k = i then true else L k

def StepOK (P : Program) (ops : Array Oper) (a0 : Act) (S : (Nat → Nat) → (Nat → Bool) → World → Prop) (al : List Nat) (i : Nat) (o : Oper) (vs : List ((Nat → Nat) → Value)) (v : (Nat → Nat) → Value) : Prop :=
  ∀ g L a w, L i = false → (∀ e ∈ o.after, Region.binds .any e = true → L e.on = true) → S g L w → KnownR ops a0 vs g L a →
    if Region.wanted o (yielded ops a.tmps) = true then
      ∀ K : Act → World → Prop, Shut (∀ (g' : Nat → Nat) (w' : World), (∀ j, (j ≠ i ∨ al.contains i = false) → g' j = g j) → S g' (updB L i) w' → K (a.put o.dst (v g')) w') → o.wp P a w K (fun _ _ _ => False)
    else v g = undef ∧ S g (updB L i) w

/-- Does k wait for i, by however many steps? -/
def reaches (ops : Array Oper) : Nat → Nat → Nat → Bool
  | 0, k, i => k == i
  | f + 1, k, i => k == i || match ops[k]? with
    | some o => o.after.any fun e => Region.binds .any e && reaches ops f e.on i
    | none => false

theorem reaches_listed {L : Nat → Bool} (hc : ∀ k o, ops[k]? = some o → L k = true → ∀ e ∈ o.after, Region.binds .any e = true → L e.on = true) :
    ∀ f k i, reaches ops f k i = true → L k = true → L i = true
  | 0, k, i, h, hk => by simp [reaches] at h; rwa [← h]
  | f + 1, k, i, h, hk => by
    simp only [reaches, Bool.or_eq_true, beq_iff_eq] at h
    rcases h with h | h
    · rwa [← h]
    · cases ho : ops[k]? with
      | none => simp [ho] at h
      | some o =>
        simp only [ho] at h
        obtain ⟨e, he, hb⟩ := Array.any_eq_true'.1 h
        simp only [Bool.and_eq_true] at hb
        exact reaches_listed hc f e.on i hb.2 (hc k o ho hk e he hb.1)

def Dep (ops : Array Oper) (al : List Nat) (k : Nat) (v : (Nat → Nat) → Value) : Prop :=
  ∀ i ∈ al, (∀ g g' : Nat → Nat, (∀ j, j ≠ i → g' j = g j) → v g' = v g) ∨ reaches ops ops.size k i = true

def LinAll (P : Program) (ops : Array Oper) (Q : Exit → Act → World → Prop) (a0 : Act) (S : (Nat → Nat) → (Nat → Bool) → World → Prop) (al : List Nat) :
    Nat → List Oper → List ((Nat → Nat) → Value) → ((Nat → Nat) → Act) → Prop
  | n, [], _, acc => ∀ g w, S g (fun k => decide (k < n)) w → Q .normal (acc g) w
  | i, o :: os, vs, acc => ∃ v, StepOK P ops a0 S al i o vs v ∧ Dep ops al i v ∧ LinAll P ops Q a0 S al (i + 1) os (v :: vs) (fun g => (acc g).put o.dst (v g))

def Dsts (ops : Array Oper) (n : Nat) : Bool :=
  (ops.toList.filterMap (·.dst)).all (fun t => decide (t < n)) && decide (ops.toList.filterMap (·.dst)).Nodup


/-- All values laid, one behind the other. -/
def putL (g : Nat → Nat) : List (Oper × ((Nat → Nat) → Value)) → Act → Act
  | [], a => a
  | p :: ps, a => putL g ps (a.put p.1.dst (p.2 g))

theorem put_size (a : Act) (d : Option Tmp) (v : Value) : (a.put d v).tmps.size = a.tmps.size := by cases d <;> simp [Act.put]
theorem put_defers (a : Act) (d : Option Tmp) (v : Value) : (a.put d v).defers = a.defers := by cases d <;> simp [Act.put]
theorem put_ne (a : Act) {d : Option Tmp} (v : Value) {t : Tmp} (h : d ≠ some t) : (a.put d v).tmps[t]? = a.tmps[t]? := by
  cases d with
  | none => rfl
  | some d => simp only [Act.put]; rw [Array.getElem?_setIfInBounds_ne (fun e => h (by rw [e]))]
theorem put_eq (a : Act) (v : Value) {t : Tmp} (h : t < a.tmps.size) : (a.put (some t) v).tmps[t]? = some v := by
  simp [Act.put, h]

theorem putL_defers (g : Nat → Nat) : ∀ ps a, (putL g ps a).defers = a.defers
  | [], _ => rfl
  | p :: ps, a => by rw [putL, putL_defers g ps, put_defers]
theorem putL_size (g : Nat → Nat) : ∀ ps a, (putL g ps a).tmps.size = a.tmps.size
  | [], _ => rfl
  | p :: ps, a => by rw [putL, putL_size g ps, put_size]
theorem putL_ne (g : Nat → Nat) {t : Tmp} : ∀ ps a, (∀ p ∈ ps, p.1.dst ≠ some t) → (putL g ps a).tmps[t]? = a.tmps[t]?
  | [], _, _ => rfl
  | p :: ps, a, h => by
    rw [putL, putL_ne g ps _ (fun q hq => h q (List.mem_cons_of_mem _ hq)), put_ne _ _ (h p (List.mem_cons_self ..))]
theorem putL_eq (g : Nat → Nat) {t : Tmp} {p : Oper × ((Nat → Nat) → Value)} : ∀ (ps : List (Oper × ((Nat → Nat) → Value))) (a : Act), (ps.filterMap (·.1.dst)).Nodup → p ∈ ps → p.1.dst = some t → t < a.tmps.size → (putL g ps a).tmps[t]? = some (p.2 g)
  | [], _, _, h, _, _ => by cases h
  | q :: ps, a, hn, h, ht, hl => by
    rw [putL]
    rcases List.mem_cons.1 h with rfl | h
    · rw [putL_ne g ps]
      · rw [ht]; exact put_eq a _ hl
      · intro r hr e
        rw [List.filterMap_cons, ht] at hn
        simp only [List.nodup_cons] at hn
        exact hn.1 (List.mem_filterMap.2 ⟨r, hr, e⟩)
    · refine putL_eq g ps _ ?_ h ht (by rw [put_size]; exact hl)
      rw [List.filterMap_cons] at hn
      split at hn
      · exact hn
      · exact (List.nodup_cons.1 hn).2

theorem dst_inj {l : List Oper} (hn : (l.filterMap (·.dst)).Nodup) {i k : Nat} {o o' : Oper} {t : Tmp} (hi : l[i]? = some o) (hk : l[k]? = some o') (ho : o.dst = some t) (ho' : o'.dst = some t) : i = k := by
  induction l generalizing i k with
  | nil => simp at hi
  | cons x l ih =>
    have hl : (l.filterMap (·.dst)).Nodup := by
      rw [List.filterMap_cons] at hn
      split at hn
      · exact hn
      · exact (List.nodup_cons.1 hn).2
    cases i with
    | zero =>
      cases k with
      | zero => rfl
      | succ k =>
        simp at hi hk
        subst hi
        rw [List.filterMap_cons, ho] at hn
        exact absurd (List.mem_filterMap.2 ⟨o', List.mem_of_getElem? hk, ho'⟩) (List.nodup_cons.1 hn).1
    | succ i =>
      cases k with
      | zero =>
        simp at hi hk
        subst hk
        rw [List.filterMap_cons, ho'] at hn
        exact absurd (List.mem_filterMap.2 ⟨o, List.mem_of_getElem? hi, ho⟩) (List.nodup_cons.1 hn).1
      | succ k => simp at hi hk; rw [ih hl hi hk]

variable {a0 : Act} {S : (Nat → Nat) → (Nat → Bool) → World → Prop} {al : List Nat}

theorem LinAll.spread : ∀ (os pre : List Oper) (vs : List ((Nat → Nat) → Value)) (acc : (Nat → Nat) → Act), ops.toList = pre ++ os → vs.length = pre.length →
    LinAll P ops Q a0 S al pre.length os vs acc →
    ∃ ws : List ((Nat → Nat) → Value), ws.length = os.length ∧
      (∀ k o v, os[k]? = some o → ws[k]? = some v → StepOK P ops a0 S al (pre.length + k) o ((ws.take k).reverse ++ vs) v ∧ Dep ops al (pre.length + k) v) ∧
      (∀ g w, S g (fun k => decide (k < ops.size)) w → Q .normal (putL g (os.zip ws) (acc g)) w)
  | [], pre, vs, acc, ho, hl, h => ⟨[], rfl, fun k o v hk => by simp at hk, fun g w hS => h g w (by
      have : ops.size = pre.length := by rw [← Array.length_toList, ho]; simp
      rw [← this]; exact hS)⟩
  | o :: os, pre, vs, acc, ho, hl, h => by
    obtain ⟨v, h1, h2, h3⟩ := h
    have hpre : (pre ++ [o]).length = pre.length + 1 := by simp
    obtain ⟨ws, hw, hstep, hend⟩ := LinAll.spread os (pre ++ [o]) (v :: vs) _ (by rw [ho]; simp) (by simp [hl]) (by rw [hpre]; exact h3)
    refine ⟨v :: ws, by simp [hw], fun k o' v' hk hv => ?_, fun g w hS => hend g w hS⟩
    cases k with
    | zero =>
      simp at hk hv
      subst hk hv
      exact ⟨by simpa using h1, h2⟩
    | succ k =>
      simp at hk hv
      have := hstep k o' v' hk hv
      rw [hpre] at this
      rw [show pre.length + (k + 1) = pre.length + 1 + k by omega, show (List.take (k + 1) (v :: ws)).reverse ++ vs = (ws.take k).reverse ++ v :: vs by simp]
      exact this

theorem Oper.wp_noPanic {o : Oper} {a : Act} {w : World} {K : Act → World → Prop} (h : o.wp P a w K (fun _ _ _ => False)) : o.wp P a w K Q := by
  unfold Oper.wp at *
  generalize (execOp a.eval o).run P w = r at *
  cases r with
  | ok n w' =>
    cases n <;> simp only [Oper.upon] at h ⊢
    case enter f args =>
      refine Calls.mono h fun e w'' he => ?_
      cases e with
      | returned u => exact he
      | panicked c => exact he.elim
      | outgrown => obtain ⟨_, _, h⟩ := he; exact h.elim
    all_goals exact h
  | halt x w' => cases x <;> simp only [Oper.upon] at h ⊢

/-- THE LAW. -/
theorem wp_region_lin {id : Nat} {w0 : World} (S : (Nat → Nat) → (Nat → Bool) → World → Prop) (al : List Nat) (g0 : Nat → Nat) (hm : P.follows .mixedOrders = true) (ht : Topo ops = true) (hd : Dsts ops a0.tmps.size = true)
    (hS : S g0 (fun _ => false) w0.drew) (h : LinAll P ops Q a0 S al 0 ops.toList [] (fun _ => a0)) : (Code.region id ops true).wp P Q a0 w0 := by
  obtain ⟨vs, hlen, hstep, hend⟩ := LinAll.spread (P := P) (ops := ops) (Q := Q) (a0 := a0) (S := S) (al := al) ops.toList [] [] _ rfl rfl h
  simp only [List.length_nil, Nat.zero_add, List.append_nil, Array.getElem?_toList] at hstep
  simp only [Array.length_toList] at hlen
  simp only [Dsts, Bool.and_eq_true, decide_eq_true_eq] at hd
  obtain ⟨hlt, hnd⟩ := hd
  have hlt' : ∀ (k : Nat) (o : Oper) (t : Tmp), ops[k]? = some o → o.dst = some t → t < a0.tmps.size := fun k o t hk ho => by
    have := List.all_eq_true.1 hlt t (List.mem_filterMap.2 ⟨o, by simpa using Array.mem_of_getElem? hk, ho⟩)
    simpa using this
  refine wp_region_any hm ?_
  refine wpAny_inv (fun l a w => ∃ g, S g (fun k => l.getD k false) w ∧ Known ops a0 vs g (fun k => l.getD k false) a ∧
    (∀ k o, ops[k]? = some o → l.getD k false = true → ∀ e ∈ o.after, Region.binds .any e = true → l.getD e.on false = true)) ?_ ?_ _ _ _ _ (by simp) (by simp) ?_
  · rintro l a w i hz ⟨g, hSg, hK, hcl⟩ hi
    obtain ⟨hun, o, ho, haft⟩ := mem_ready.1 hi
    have hin : i < ops.size := (Array.getElem?_eq_some_iff.1 ho).1
    have hLi : l.getD i false = false := by
      have : i < l.size := by omega
      simp [this] at hun ⊢; exact hun
    obtain ⟨v, hv⟩ : ∃ v, vs[i]? = some v := ⟨vs[i]'(by omega), by simp [hlen, hin]⟩
    obtain ⟨hok, -⟩ := hstep i o v ho hv
    have hK' : KnownR ops a0 (vs.take i).reverse g (fun k => l.getD k false) a := ⟨hK.defers, hK.size, hK.old, fun k j o t v hk hot hv hj hL => hK.new k o t v hk hot (by
      have hlt : (vs.take i).length = i := by rw [List.length_take]; omega
      have hj' : j + k + 1 = (vs.take i).reverse.length := by simpa using hj
      rw [List.length_reverse, hlt] at hj'
      rw [List.getElem?_reverse (by rw [hlt]; omega), hlt, show i - 1 - j = k by omega, List.getElem?_take, if_pos (by omega)] at hv
      exact hv) hL, hK.pend, hcl⟩
    have hs := hok g (fun k => l.getD k false) a w hLi haft hSg hK'
    have hupd : updB (fun k => l.getD k false) i = fun k => (l.setIfInBounds i true).getD k false := by
      funext k
      simp only [updB]
      split
      · rename_i e; subst e
        have : k < l.size := by omega
        simp [this]
      · rename_i e
        rw [getD_set_ne false (Ne.symm e)]
    have fin : ∀ (g' : Nat → Nat) (w' : World), (∀ j, (j ≠ i ∨ al.contains i = false) → g' j = g j) → S g' (updB (fun k => l.getD k false) i) w' →
        ∃ g, S g (fun k => (l.setIfInBounds i true).getD k false) w' ∧ Known ops a0 vs g (fun k => (l.setIfInBounds i true).getD k false) (a.put o.dst (v g')) ∧
          (∀ k o, ops[k]? = some o → (l.setIfInBounds i true).getD k false = true → ∀ e ∈ o.after, Region.binds .any e = true → (l.setIfInBounds i true).getD e.on false = true) := by
      intro g' w' hg hS'
      rw [hupd] at hS'
      refine ⟨g', hS', ⟨by rw [put_defers, hK.defers], by rw [put_size, hK.size], fun t hall => ?_, fun k ok t vk hok'' hokt hvk hLk => ?_, fun t hno => ?_⟩, ?_⟩
      · have := Array.all_eq_true_iff_forall_mem.1 hall o (Array.mem_of_getElem? ho)
        rw [put_ne _ _ (by simpa using this)]
        exact hK.old t hall
      · have hok' : ops[k]? = some ok := by simpa using hok''
        by_cases hki : k = i
        · subst hki
          rw [ho] at hok'; cases hok'
          rw [hv] at hvk; cases hvk
          rw [hokt]
          exact put_eq _ _ (by rw [hK.size]; exact hlt' _ _ _ ho hokt)
        · have hLk' : l.getD k false = true := by
            have := getD_set_ne (listed := l) false (Ne.symm hki)
            rw [← this]; exact hLk
          rw [put_ne, hK.new k ok t vk (by simpa using hok') hokt hvk hLk']
          · congr 1
            by_cases hal : al.contains i = false
            · rw [show g' = g from funext fun j => hg j (Or.inr hal)]
            · have hmem : i ∈ al := by simpa using hal
              rcases (hstep k ok vk hok' hvk).2 i hmem with h | h
              · exact (h g g' fun j hj => hg j (Or.inl hj)).symm
              · have := reaches_listed (L := fun k => l.getD k false) hcl _ _ _ h hLk'
                rw [hLi] at this; cases this
          · intro e
            exact hki (dst_inj hnd (by simpa using hok') (by simpa using ho) hokt e)
      · have hii : (l.setIfInBounds i true).getD i false = true := by
          have : i < l.size := by omega
          simp [this]
        have hne : o.dst ≠ some t := fun e => by
          have := hno i o (by simpa using ho) e
          rw [hii] at this
          cases this
        rw [put_ne _ _ hne]
        refine hK.pend t (fun k ok hok' hokt => ?_)
        by_cases hki : k = i
        · subst hki
          have ho2 : ops[k]? = some ok := by simpa using hok'
          rw [ho] at ho2
          cases ho2
          exact absurd hokt hne
        · have := hno k ok hok' hokt
          rw [getD_set_ne false (Ne.symm hki)] at this
          exact this
      · intro k ok hok' hLk e he hb
        by_cases hki : k = i
        · subst hki
          rw [ho] at hok'; cases hok'
          exact getD_set_true (haft e he hb)
        · have hLk' : l.getD k false = true := by
            have := getD_set_ne (listed := l) false (Ne.symm hki)
            rw [← this]; exact hLk
          exact getD_set_true (hcl k ok hok' hLk' e he hb)
    unfold wpOp
    simp only [ho]
    split
    · rename_i hw
      rw [if_pos hw] at hs
      exact Or.inl (Oper.wp_noPanic (hs _ fun g' w' hg hS' => fin g' w' hg hS'))
    · rename_i hw
      rw [if_neg hw] at hs
      obtain ⟨hu, hS'⟩ := hs
      have := fin g w (fun _ _ => rfl) hS'
      rw [hu] at this
      exact this
  · rintro l a w hz ⟨g, hSg, hK, -⟩ hr
    have hall := all_of_ready ht hz hr
    have hL : (fun k => l.getD k false) = fun k => decide (k < ops.size) := by
      funext k
      by_cases hk : k < ops.size
      · rw [hall k hk]; simp [hk]
      · have : ¬ k < l.size := by omega
        simp [hk, this]
    rw [hL] at hSg hK
    have ha : a = putL g (ops.toList.zip vs) a0 := by
      have hd := putL_defers g (ops.toList.zip vs) a0
      have htm : a.tmps = (putL g (ops.toList.zip vs) a0).tmps := by
        refine Array.ext_getElem? fun t => ?_
        have hzl : (ops.toList.zip vs).filterMap (·.1.dst) = ops.toList.filterMap (·.dst) := by
          have : (ops.toList.zip vs).map (·.1) = ops.toList := by
            rw [List.map_fst_zip]; simp [hlen]
          conv => rhs; rw [← this]
          rw [List.filterMap_map]; rfl
        by_cases hex : ∃ (k : Nat) (o : Oper), ops[k]? = some o ∧ o.dst = some t
        · obtain ⟨k, o, hk, hot⟩ := hex
          have hkn : k < ops.size := (Array.getElem?_eq_some_iff.1 hk).1
          obtain ⟨v, hv⟩ : ∃ v, vs[k]? = some v := ⟨vs[k]'(by omega), by simp [hlen, hkn]⟩
          rw [hK.new k o t v (by simpa using hk) hot hv (by simp [hkn])]
          rw [putL_eq g (p := (o, v)) _ _ (by rw [hzl]; exact hnd) ?_ hot (hlt' k o t hk hot)]
          refine List.mem_of_getElem? (i := k) ?_
          rw [List.getElem?_zip_eq_some]
          exact ⟨by simpa using hk, hv⟩
        · have hno : ∀ o ∈ ops.toList, o.dst ≠ some t := fun o ho e => by
            obtain ⟨k, hk⟩ := List.getElem?_of_mem ho
            exact hex ⟨k, o, by simpa using hk, e⟩
          rw [putL_ne]
          · refine hK.old t ?_
            rw [Array.all_eq_true_iff_forall_mem]
            intro o ho
            simpa using hno o (by simpa using ho)
          · intro p hp
            exact hno p.1 (List.of_mem_zip hp).1
      have hdd := hK.defers
      cases a; cases hp : putL g (ops.toList.zip vs) a0
      rw [hp] at htm hd
      simp only at htm hd hdd
      rw [htm, hdd, ← hd]
    rw [ha]
    exact hend g w hSg
  · have hrep : ∀ k, (Array.replicate ops.size false).getD k false = false := fun k => by
      simp only [Array.getD_eq_getD_getElem?, Array.getElem?_replicate]; split <;> rfl
    refine ⟨g0, ?_, ⟨rfl, rfl, fun _ _ => rfl, fun k o t v hk hot hv hL => ?_, fun _ _ => rfl⟩, fun k o hk hL => ?_⟩
    · rw [show (fun k => (Array.replicate ops.size false).getD k false) = fun _ => false from funext hrep]; exact hS
    · rw [hrep k] at hL; cases hL
    · rw [hrep k] at hL; cases hL


theorem LinAll.cons {i : Nat} {o : Oper} {os : List Oper} {vs : List ((Nat → Nat) → Value)} {acc : (Nat → Nat) → Act} (v : (Nat → Nat) → Value) (h1 : StepOK P ops a0 S al i o vs v) (h2 : Dep ops al i v) (h3 : LinAll P ops Q a0 S al (i + 1) os (v :: vs) (fun g => (acc g).put o.dst (v g))) :
    LinAll P ops Q a0 S al i (o :: os) vs acc := ⟨v, h1, h2, h3⟩
theorem LinAll.cons0 {i : Nat} {o : Oper} {os : List Oper} {vs : List ((Nat → Nat) → Value)} {acc : (Nat → Nat) → Act} {v : (Nat → Nat) → Value} (h1 : StepOK P ops a0 S [] i o vs v) (h3 : LinAll P ops Q a0 S [] (i + 1) os (v :: vs) (fun g => (acc g).put o.dst (v g))) :
    LinAll P ops Q a0 S [] i (o :: os) vs acc := ⟨v, h1, fun _ h => (by cases h), h3⟩
theorem LinAll.nil {n : Nat} {vs : List ((Nat → Nat) → Value)} {acc : (Nat → Nat) → Act} (h : ∀ g w, S g (fun k => decide (k < n)) w → Q .normal (acc g) w) : LinAll P ops Q a0 S al n [] vs acc := h
theorem wp_named {c : Code} {a : Act} {w : World} (h : ∀ b, a = b → c.wp P Q b w) : c.wp P Q a w := h a rfl
theorem eval_tmp {a : Act} {t : Tmp} {v : Value} (h : a.tmps[t]? = some v) : a.eval (.tmp t) = v := by simp [Act.eval, h]
theorem wanted_at {o k : Oper} {tm : Array Value} {j : Nat} {b c r : Bool} {d : Tmp} (hg : o.guard = some (j, b)) (ho' : ops.toList[j]? = some k) (hd : k.dst = some d) (ht : tm[d]? = some (.bool c)) (hbc : (c == b) = r) : Region.wanted o (yielded ops tm) = r := by
  have ho : ops[j]? = some k := by simpa using ho'
  unfold Region.wanted yielded
  simp only [hg, ho, Option.bind_some, hd, ht]
  rw [← hbc]; cases c <;> cases b <;> rfl
theorem wanted_all {o : Oper} {tm : Array Value} (hg : o.guard = none) : Region.wanted o (yielded ops tm) = true := by
  unfold Region.wanted; simp only [hg]
theorem wanted_un {o k : Oper} {tm : Array Value} {j : Nat} {b : Bool} {d : Tmp} (hg : o.guard = some (j, b)) (ho' : ops.toList[j]? = some k) (hd : k.dst = some d) (ht : tm[d]? = some undef) : Region.wanted o (yielded ops tm) = false := by
  have ho : ops[j]? = some k := by simpa using ho'
  unfold Region.wanted yielded
  simp only [hg, ho, Option.bind_some, hd, ht, undef]
  rfl
theorem go_in {c : Bool} {A B : Prop} (h : c = true) (ha : A) : if c = true then A else B := by rw [if_pos h]; exact ha
theorem go_out {c : Bool} {A B : Prop} (h : c = false) (hb : B) : if c = true then A else B := by rw [if_neg (by rw [h]; decide)]; exact hb
end
/-- A slot that the k-th op alone writes, ahead of it. -/
theorem KnownR.pend1 {ops : Array Oper} {a0 : Act} {rs : List ((Nat → Nat) → Value)} {g : Nat → Nat} {L : Nat → Bool} {a : Act} (h : KnownR ops a0 rs g L a) (t : Tmp) (k : Nat) (hk : ((List.range ops.size).all fun j => j == k || (match ops[j]? with | some o => o.dst != some t | none => true)) = true) (hL : L k = false) : a.tmps[t]? = a0.tmps[t]? := by
  refine h.pend t (fun j o hj ho => ?_)
  have hjo : ops[j]? = some o := by simpa using hj
  have h1 := List.all_eq_true.1 hk j (List.mem_range.2 (Array.getElem?_eq_some_iff.1 hjo).1)
  rw [hjo] at h1
  simp [ho] at h1
  rw [h1]; exact hL
theorem off_b {a b : Bool} (h : a = true → b = true) (e : b = false) : a = false := by
  cases a
  · rfl
  · rw [h rfl] at e; cases e
end Go.Proofs.YtkmkmgnfolpphaaDoor
