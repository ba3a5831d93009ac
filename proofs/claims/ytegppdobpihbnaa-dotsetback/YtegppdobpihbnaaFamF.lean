/- The law of Fam.lean, where some operations that hang on no world (copies, parts of tuples) may come up behind the tail has begun, and where what is allotted is apart. -/
import Derived.Test.YtegppdobpihbnaaFam
namespace Go.Proofs.Ytegppdobpihbnaa
set_option linter.unusedVariables false
set_option linter.unusedSimpArgs false
open Go.RowKit

def isAlloc (o : Oper) : Bool := match o.op with | .alloc _ => true | _ => false
def allocAt (ops : Array Oper) (i : Nat) : Bool := match ops[i]? with | some o => isAlloc o | none => false
section
variable (P : Program) (ops : Array Oper) (D : List Nat) (Fs : List (Nat × StG)) (a0 : Act) (w0 : World)
/-- One operation, whenever it comes up. -/
def FamOkF (o : Oper) : Prop :=
  ∀ (f : Nat → Value) (w : World), Grows w0 w → (∀ s ∈ o.looksAt ops, famAt D Fs a0 s (f s) w) →
    (famWants ops o f = true → famUpon P (fun v w' => Grows w w' ∧ (∀ d, o.dst = some d → famOf Fs d v w') ∧ (isAlloc o = true → v = .pointer (some ⟨w.heap.size, 0, none⟩) ∧ w.heap.size < w'.heap.size)) ((execOp (rho f) o).run P w)) ∧
    (famWants ops o f = false → (∀ d, o.dst = some d → famOf Fs d undef w) ∧ isAlloc o = false)
/-- One that hangs on no world. -/
def FamFl (o : Oper) : Prop :=
  ∀ (f : Nat → Value) (w : World), Grows w0 w → (∀ s ∈ o.looksAt ops, famAt D Fs a0 s (f s) w) →
    famWants ops o f = true ∧ ∃ v, (∀ w', (execOp (rho f) o).run P w' = .ok (.value v) w') ∧ ∀ d, o.dst = some d → famOf Fs d v w
def famAllF (fl : List Nat) : Nat → List Oper → Prop
  | _, [] => True
  | k, o :: l => (if fl.contains k then FamFl P ops D Fs a0 w0 o else FamOkF P ops D Fs a0 w0 o) ∧ famAllF fl (k + 1) l
end
theorem famAllF_at {P : Program} {ops : Array Oper} {D : List Nat} {Fs : List (Nat × StG)} {a0 : Act} {w0 : World} {fl : List Nat} : ∀ {l : List Oper} {k : Nat}, famAllF P ops D Fs a0 w0 fl k l → ∀ (i : Nat) (o : Oper), l[i]? = some o → if fl.contains (k + i) then FamFl P ops D Fs a0 w0 o else FamOkF P ops D Fs a0 w0 o
  | [], _, _, i, o, h => by simp at h
  | x :: l, k, h, 0, o, e => by simp at e; subst e; exact h.1
  | x :: l, k, h, i + 1, o, e => by have := famAllF_at h.2 i o (by simpa using e); rwa [show k + 1 + i = k + (i + 1) by omega] at this

/-- The conditions, as a Bool: as famB's, edges that bind lead back, every operation but the floating ones is waited for ahead of the tail; the floating ones are apart from all that does not wait for them. -/
def famFB (ops : Array Oper) (n size : Nat) (D fl : List Nat) : Bool :=
  decide (n < ops.size) && Region.noSelect ops && decide ((List.range n).filterMap (famDst ops) = D) && D.all (fun d => decide (d < size)) &&
  (List.range n).all (fun i => (List.range n).all fun j => decide (i = j) || famDst ops i == none || decide (famDst ops i ≠ famDst ops j)) &&
  (List.range n).all (fun i => match ops[i]? with
    | some o => (o.looksAt ops).all (fun s => (List.range n).all fun j => !(famDst ops j == some s) || Region.waitsFor .any ops i j) && o.after.all (fun e => !Region.binds .any e || decide (e.on < i))
    | none => false) &&
  (List.range n).all (fun i => fl.contains i || (List.range (n + 1)).any fun j => decide (i < j) && !fl.contains j && Region.waitsFor .any ops j i) &&
  Region.chainB .any ops n &&
  fl.all (fun i => decide (i < n) && !allocAt ops i && Region.free .any ops (Array.ofFn fun k : Fin ops.size => decide (k.val < n) && !fl.contains k.val) i) &&
  Region.seqB .any ops (ops.size - n) n (Array.replicate n true ++ Array.replicate (ops.size - n) false)
structure FamCF (ops : Array Oper) (n size : Nat) (D fl : List Nat) : Prop where
  lt : n < ops.size
  sel : Region.noSelect ops = true
  lists : (List.range n).filterMap (famDst ops) = D
  within : ∀ d ∈ D, d < size
  apart : ∀ i j, i < n → j < n → i ≠ j → famDst ops i = none ∨ famDst ops i ≠ famDst ops j
  waits : ∀ i o, i < n → ops[i]? = some o → ∀ s ∈ o.looksAt ops, ∀ j, j < n → famDst ops j = some s → Region.waitsFor .any ops i j = true
  back : ∀ i o, i < n → ops[i]? = some o → ∀ e ∈ o.after, Region.binds .any e = true → e.on < i
  sink : ∀ i, i < n → fl.contains i = false → ∃ j, i < j ∧ j ≤ n ∧ fl.contains j = false ∧ Region.waitsFor .any ops j i = true
  chain : Region.chainB .any ops n = true
  float : ∀ i ∈ fl, i < n ∧ allocAt ops i = false ∧ Region.free .any ops (Array.ofFn fun k : Fin ops.size => decide (k.val < n) && !fl.contains k.val) i = true
  seq : Region.seqB .any ops (ops.size - n) n (Array.replicate n true ++ Array.replicate (ops.size - n) false) = true
theorem famFB_spec {ops : Array Oper} {n size : Nat} {D fl : List Nat} (h : famFB ops n size D fl = true) : FamCF ops n size D fl := by
  unfold famFB at h
  simp only [Bool.and_eq_true, Bool.or_eq_true, decide_eq_true_eq, List.all_eq_true, List.mem_range, List.any_eq_true] at h
  obtain ⟨⟨⟨⟨⟨⟨⟨⟨⟨h1, h2⟩, h3⟩, h4⟩, h5⟩, h6⟩, h7⟩, h8⟩, h9⟩, h10⟩ := h
  refine ⟨h1, h2, h3, h4, fun i j hi hj hij => ?_, fun i o hi ho s hs j hj hd => ?_, fun i o hi ho e he hb => ?_, fun i hi hf => ?_, h8, fun i hi => ?_, h10⟩
  · rcases h5 i hi j hj with (h | h) | h
    · exact absurd h hij
    · exact .inl (by simpa using h)
    · exact .inr h
  · have := h6 i hi
    rw [ho] at this
    simp only [Bool.and_eq_true, List.all_eq_true, List.mem_range, Bool.or_eq_true] at this
    rcases this.1 s hs j hj with h | h
    · simp [hd] at h
    · exact h
  · have := h6 i hi
    rw [ho] at this
    simp only [Bool.and_eq_true] at this
    have := Array.all_eq_true'.1 this.2 e he
    simpa [hb] using this
  · rcases h7 i hi with h | ⟨j, hj, h⟩
    · rw [h] at hf; cases hf
    · simp only [Bool.not_eq_true'] at h
      exact ⟨j, h.1.1, by omega, h.1.2, h.2⟩
  · have := h9 i hi
    exact ⟨this.1.1, by simpa using this.1.2, this.2⟩
theorem mem_DF {ops : Array Oper} {n size : Nat} {D fl : List Nat} (c : FamCF ops n size D fl) {d : Nat} : d ∈ D ↔ ∃ i, i < n ∧ famDst ops i = some d := by
  rw [← c.lists, List.mem_filterMap]
  simp only [List.mem_range]

/-- How things stand. -/
structure FInv (ops : Array Oper) (n : Nat) (D : List Nat) (Fs : List (Nat × StG)) (a0 : Act) (w0 : World) (listed : Array Bool) (a : Act) (w : World) : Prop where
  base : FamInv ops n D Fs a0 w0 listed a w
  fresh : ∀ i d, i < n → allocAt ops i = true → famDst ops i = some d → listed.getD i false = true → ∃ g, a.tmps.getD d undef = .pointer (some ⟨g, 0, none⟩) ∧ g < w.heap.size
  dist : ∀ i j d d', i < n → j < n → i ≠ j → allocAt ops i = true → allocAt ops j = true → famDst ops i = some d → famDst ops j = some d' → listed.getD i false = true → listed.getD j false = true → a.tmps.getD d undef ≠ a.tmps.getD d' undef

section
variable {P : Program} {ops : Array Oper} {n : Nat} {D fl : List Nat} {Fs : List (Nat × StG)} {a0 : Act} {w0 : World} {listed : Array Bool} {a : Act} {w : World} {Q : Exit → Act → World → Prop}
theorem FInv.facts (c : FamCF ops n a0.tmps.size D fl) (inv : FInv ops n D Fs a0 w0 listed a w) {i : Nat} {o : Oper} (ho : ops[i]? = some o) (hi : i < n) (hr : i ∈ Region.ready .any ops listed) :
    ∀ s ∈ o.looksAt ops, famAt D Fs a0 s ((fun t => a.tmps.getD t undef) s) w := fun s hs => by
  obtain ⟨_, o', ho', hall⟩ := mem_ready.1 hr
  obtain rfl : o' = o := Option.some.inj (ho'.symm.trans ho)
  unfold famAt
  by_cases hD : s ∈ D
  · rw [if_pos (by simpa using hD)]
    obtain ⟨j, hj, hd⟩ := (mem_DF c).1 hD
    obtain ⟨o2, ho2, e, he, hb, hon⟩ := Region.waitsFor_spec (c.waits i o' hi ho s hs j hj hd)
    obtain rfl : o2 = o' := Option.some.inj (ho2.symm.trans ho)
    have := hall e he hb
    rw [hon] at this
    exact inv.base.done j s hj hd this
  · rw [if_neg (by simpa using hD)]
    have := inv.base.rest s (fun j hj hd => absurd ((mem_DF c).2 ⟨j, hj, hd⟩) hD)
    simp only [Array.getD_eq_getD_getElem?, this]
theorem FInv.put (c : FamCF ops n a0.tmps.size D fl) (inv : FInv ops n D Fs a0 w0 listed a w) {i : Nat} {o : Oper} (ho : ops[i]? = some o) (hi : i < n) (hr : i ∈ Region.ready .any ops listed) {v : Value} {w' : World} (hg : Grows w w') (hv : ∀ d, o.dst = some d → famOf Fs d v w')
    (hal : isAlloc o = true → v = .pointer (some ⟨w.heap.size, 0, none⟩) ∧ w.heap.size < w'.heap.size) : FInv ops n D Fs a0 w0 (listed.setIfInBounds i true) (a.put o.dst v) w' := by
  have hlt : i < listed.size := by rw [inv.base.head.size]; exact (Array.getElem?_eq_some_iff.1 ho).1
  have hdst : famDst ops i = o.dst := by unfold famDst; rw [ho]; rfl
  have hai : allocAt ops i = isAlloc o := by unfold allocAt; rw [ho]
  have here : ∀ d, o.dst = some d → (a.put o.dst v).tmps.getD d undef = v := fun d hd => by
    have hD : d ∈ D := (mem_DF c).2 ⟨i, hi, by rw [hdst]; exact hd⟩
    have hs := c.within d hD
    rw [hd]; simp [Act.put, inv.base.size, hs]
  have there : ∀ j d, j < n → j ≠ i → famDst ops j = some d → (a.put o.dst v).tmps.getD d undef = a.tmps.getD d undef := fun j d hj hij hd => by
    cases hd' : o.dst with
    | none => rfl
    | some d' =>
      have hne : d' ≠ d := fun e => by
        subst e
        rcases c.apart j i hj hi hij with h | h
        · rw [hd] at h; cases h
        · exact h (by rw [hd, hdst, hd'])
      simp [Act.put, Array.getElem?_setIfInBounds_ne hne]
  have hsz := Below.size hg
  refine ⟨⟨inv.base.head.set hr hi, inv.base.grows.trans hg, ?_, ?_, fun j d hj hd hl => ?_, fun s hs => ?_⟩, fun j d hj ha hd hl => ?_, fun j k d d' hj hk hjk ha ha' hd hd' hl hl' => ?_⟩
  · rw [← inv.base.defers]; cases o.dst <;> rfl
  · rw [← inv.base.size]; cases o.dst <;> simp [Act.put]
  · by_cases hij : j = i
    · subst hij
      rw [hdst] at hd
      rw [here d hd]
      exact hv d hd
    · rw [getD_set_ne false (Ne.symm hij)] at hl
      rw [there j d hj hij hd]
      exact famOf_up Fs d hg (inv.base.done j d hj hd hl)
  · have hne : o.dst ≠ some s := fun e => by
      have := hs i hi (by rw [hdst]; exact e)
      simp [hlt] at this
    have h1 := inv.base.rest s (fun j hj hd => by
      have := hs j hj hd
      by_cases hij : i = j
      · subst hij; exact absurd (hdst ▸ hd) hne
      · rwa [getD_set_ne false hij] at this)
    rw [← h1]
    cases hd' : o.dst with
    | none => rfl
    | some d' => simp [Act.put, Array.getElem?_setIfInBounds_ne (fun e : d' = s => hne (by rw [hd', e]))]
  · by_cases hij : j = i
    · subst hij
      rw [hdst] at hd
      rw [here d hd]
      rw [hai] at ha
      exact ⟨_, (hal ha).1, (hal ha).2⟩
    · rw [getD_set_ne false (Ne.symm hij)] at hl
      rw [there j d hj hij hd]
      obtain ⟨g, h1, h2⟩ := inv.fresh j d hj ha hd hl
      exact ⟨g, h1, by omega⟩
  · by_cases hij : j = i
    · subst hij
      have hki : k ≠ j := Ne.symm hjk
      rw [getD_set_ne false (Ne.symm hki)] at hl'
      rw [hdst] at hd
      rw [here d hd, there k d' hk hki hd']
      rw [hai] at ha
      obtain ⟨g, h1, h2⟩ := inv.fresh k d' hk ha' hd' hl'
      rw [(hal ha).1, h1]
      intro e
      simp at e <;> omega
    · rw [getD_set_ne false (Ne.symm hij)] at hl
      rw [there j d hj hij hd]
      by_cases hik : k = i
      · subst hik
        rw [hdst] at hd'
        rw [here d' hd']
        rw [hai] at ha'
        obtain ⟨g, h1, h2⟩ := inv.fresh j d hj ha hd hl
        rw [(hal ha').1, h1]
        intro e
        simp at e <;> omega
      · rw [getD_set_ne false (Ne.symm hik)] at hl'
        rw [there k d' hk hik hd']
        exact inv.dist j k d d' hj hk hjk ha ha' hd hd' hl hl'
theorem FInv.step (c : FamCF ops n a0.tmps.size D fl) (inv : FInv ops n D Fs a0 w0 listed a w) {i : Nat} {o : Oper} (ho : ops[i]? = some o) (hi : i < n) (hr : i ∈ Region.ready .any ops listed) (hok : FamOkF P ops D Fs a0 w0 o) :
    wpOp P ops Q i (fun a' w' => FInv ops n D Fs a0 w0 (listed.setIfInBounds i true) a' w') a w := by
  have ok := hok (fun t => a.tmps.getD t undef) w inv.base.grows (inv.facts c ho hi hr)
  rw [famWants_eq, rho_eval] at ok
  unfold wpOp
  simp only [ho]
  split
  · rename_i hw
    refine .inl ?_
    have := ok.1 hw
    unfold Oper.wp
    generalize (execOp a.eval o).run P w = r at *
    cases r with
    | ok nx w' =>
      cases nx <;> simp only [famUpon] at this <;> simp only [Oper.upon]
      case value v => exact inv.put c ho hi hr this.1 this.2.1 this.2.2
      case skip => exact inv.put c ho hi hr this.1 this.2.1 this.2.2
      case enter f args =>
        refine this.mono fun e w'' he => ?_
        obtain ⟨v, rfl, h1, h2, h3⟩ := he
        exact inv.put c ho hi hr h1 h2 h3
    | halt x w' => simp only [famUpon] at this
  · rename_i hw
    have := ok.2 (by simpa using hw)
    exact inv.put c ho hi hr (Grows.refl w) this.1 (fun h => by rw [this.2] at h; cases h)
end

theorem fl_ok {P : Program} {ops : Array Oper} {D : List Nat} {Fs : List (Nat × StG)} {a0 : Act} {w0 : World} {o : Oper} (h : FamFl P ops D Fs a0 w0 o) (ha : isAlloc o = false) : FamOkF P ops D Fs a0 w0 o := fun f w hg hl => by
  obtain ⟨h1, v, h2, h3⟩ := h f w hg hl
  refine ⟨fun _ => ?_, fun h' => by rw [h1] at h'; cases h'⟩
  rw [h2 w]
  exact ⟨Grows.refl w, h3, fun h => by rw [ha] at h; cases h⟩

/-- While one that does not float is out, no operation of the tail comes up. -/
theorem tail_waitsF {ops : Array Oper} {n size : Nat} {D fl : List Nat} {listed : Array Bool} (c : FamCF ops n size D fl) (inv : HeadInv .any ops n listed) :
    ∀ (d i : Nat), n - i = d → i < n → fl.contains i = false → listed.getD i true = false → ∀ t, n ≤ t → t ∉ Region.ready .any ops listed := by
  intro d
  induction d using Nat.strongRecOn with
  | _ d ih =>
    intro i hd hi hfl hun t ht hr
    obtain ⟨_, ot, hot, hall⟩ := mem_ready.1 hr
    have htlt : t < ops.size := (Array.getElem?_eq_some_iff.1 hot).1
    by_cases htn : t = n
    · subst htn
      obtain ⟨j, hj1, hj2, hj3, hj4⟩ := c.sink i hi hfl
      obtain ⟨oj, hoj, e, he, hb, hon⟩ := Region.waitsFor_spec hj4
      by_cases hjt : j = t
      · subst hjt
        have : oj = ot := Option.some.inj (hoj.symm.trans hot)
        subst this
        have h2 := hall e he hb
        rw [hon, getD_both hun] at h2
        cases h2
      · cases hl : listed.getD j false with
        | true =>
          have h2 := inv.closed j oj hoj hl e he hb
          rw [hon, getD_both hun] at h2
          cases h2
        | false =>
          have hjs : j < listed.size := by rw [inv.size]; omega
          exact ih (t - j) (by omega) j rfl (by omega) hj3 (getD_in hjs hl) t (Nat.le_refl _) hr
    · have h1 := List.all_eq_true.1 c.chain t (List.mem_range.2 htlt)
      simp only [Bool.or_eq_true, decide_eq_true_eq] at h1
      rcases h1 with h1 | h1
      · omega
      · obtain ⟨o', ho', e, he, hb, hon⟩ := Region.waitsFor_spec h1
        have : o' = ot := Option.some.inj (ho'.symm.trans hot)
        subst this
        have h2 := hall e he hb
        rw [hon, getD_both (inv.tail (t - 1) (by omega) (by omega))] at h2
        cases h2

theorem famF_any {P : Program} {ops : Array Oper} {n : Nat} {D fl : List Nat} {Fs : List (Nat × StG)} {a0 : Act} {w0 : World} {Q : Exit → Act → World → Prop} (c : FamCF ops n a0.tmps.size D fl)
    (hQ : ∀ (x : List PanicEntry) (a : Act) (d : Option Tmp) (v : Value) (w : World), Q (.panic x) (a.put d v) w → Q (.panic x) a w)
    (hok : famAllF P ops D Fs a0 w0 fl 0 (ops.toList.take n))
    (hend : ∀ (u : Nat → Value) (w' : World), Grows w0 w' → (∀ s ∈ D, famOf Fs s (u s) w') → (∀ i j d d', i < n → j < n → i ≠ j → allocAt ops i = true → allocAt ops j = true → famDst ops i = some d → famDst ops j = some d' → u d ≠ u d') → wpList P ops Q (ops.toList.drop n) (fill u D a0) w') :
    ∀ (k : Nat) (listed : Array Bool) (a : Act) (w : World), unl listed n = k → FInv ops n D Fs a0 w0 listed a w → wpAny P .any ops Q (k + (ops.size - n)) listed a w := by
  have at' : ∀ i o, i < n → ops[i]? = some o → if fl.contains i then FamFl P ops D Fs a0 w0 o else FamOkF P ops D Fs a0 w0 o := fun i o hi ho => by
    have := famAllF_at hok i o (by simp [hi, ho])
    rwa [Nat.zero_add] at this
  have all : ∀ i o, i < n → ops[i]? = some o → FamOkF P ops D Fs a0 w0 o := fun i o hi ho => by
    have := at' i o hi ho
    split at this
    · next h =>
      refine fl_ok this ?_
      have := (c.float i (by simpa using h)).2.1
      unfold allocAt at this
      rw [ho] at this
      exact this
    · exact this
  intro k
  induction k with
  | zero =>
    intro listed a w hk inv
    have hl := unl_zero hk
    have hlt := c.lt
    have e : listed = Array.replicate n true ++ Array.replicate (ops.size - n) false := by
      refine Array.ext_getElem? fun i => ?_
      have hs := inv.base.head.size
      rcases Nat.lt_or_ge i n with h | h
      · have := hl i h
        rw [Array.getElem?_append_left (by simpa using h)]
        have h2 : i < listed.size := by omega
        simp [h2] at this
        simp [h2, this, h]
      · rw [Array.getElem?_append_right (by simpa using h)]
        rcases Nat.lt_or_ge i ops.size with h2 | h2
        · have := inv.base.head.tail i h h2
          have h3 : i < listed.size := by omega
          simp [h3] at this
          have h4 : i - n < ops.size - n := by omega
          simp [h3, this, h4]
        · rw [Array.getElem?_eq_none (by omega)]
          simp; omega
    have ha : a = fill (fun s => a.tmps.getD s undef) D a0 := by
      refine act_ext (by rw [fill_defers, inv.base.defers]) fun s => ?_
      rw [fill_get]
      by_cases hD : s ∈ D
      · have := c.within s hD
        rw [if_pos ⟨hD, this⟩]
        have h2 : s < a.tmps.size := by rw [inv.base.size]; exact this
        simp [h2]
      · rw [if_neg (fun h => hD h.1)]
        exact inv.base.rest s fun i hi hd => absurd ((mem_DF c).2 ⟨i, hi, hd⟩) hD
    have H := hend (fun s => a.tmps.getD s undef) w inv.base.grows (fun s hs => by
      obtain ⟨i, hi, hd⟩ := (mem_DF c).1 hs
      exact inv.base.done i s hi hd (hl i hi)) (fun i j d d' hi hj hij ha1 ha2 hd hd' => inv.dist i j d d' hi hj hij ha1 ha2 hd hd' (hl i hi) (hl j hj))
    rw [← ha] at H
    rw [Nat.zero_add]
    have hlen : (ops.toList.drop n).length = ops.size - n := by simp
    have := wpAny_of_seq (md := .any) (Q' := Q) (ops := ops) (P := P) (ops.toList.drop n) n listed a w (fun j => by simp [List.getElem?_drop]) (by rw [hlen, e]; exact c.seq) H
    rwa [hlen] at this
  | succ k ih =>
    intro listed a w hk inv
    obtain ⟨i, hi, hf, hall⟩ := unl_least (listed := listed) (n := n) (by omega)
    have hs := inv.base.head.size
    have hlt := c.lt
    have hio : i < ops.size := by omega
    have hoi : ops[i]? = some ops[i] := by simp [hio]
    have hri : i ∈ Region.ready .any ops listed := mem_ready.2 ⟨getD_in (by omega) hf, ops[i], hoi, fun e he hb => hall _ (c.back i _ hi hoi e he hb)⟩
    rw [show k + 1 + (ops.size - n) = (k + (ops.size - n)) + 1 by omega]
    by_cases hfl : ∃ j, j < n ∧ fl.contains j = false ∧ listed.getD j true = false
    · obtain ⟨j0, hj0, hf0, hu0⟩ := hfl
      have hlow : ∀ j ∈ Region.ready .any ops listed, j < n := fun j hj => by
        rcases Nat.lt_or_ge j n with h | h
        · exact h
        · exact absurd hj (tail_waitsF c inv.base.head _ j0 rfl hj0 hf0 hu0 j h)
      refine ⟨fun h => (by rw [h] at hri; cases hri), fun j hj => ?_⟩
      obtain ⟨hun, o, ho, _⟩ := mem_ready.1 hj
      have hjn := hlow j hj
      have hjs : j < listed.size := by rw [hs]; exact (Array.getElem?_eq_some_iff.1 ho).1
      refine wpOp_mono (fun a' w' inv' => ih _ a' w' ?_ inv') (inv.step c ho hjn hj (all j o hjn ho))
      have := unl_set hjs (getD_both hun) (n := n)
      rw [if_pos hjn] at this
      omega
    · have hifl : fl.contains i = true := by
        cases e : fl.contains i with
        | true => rfl
        | false => exact absurd ⟨i, hi, e, getD_in (by omega) hf⟩ hfl
      have hfo := at' i _ hi hoi
      rw [if_pos hifl] at hfo
      obtain ⟨hw, v, hv1, hv2⟩ := hfo (fun t => a.tmps.getD t undef) w inv.base.grows (inv.facts c hoi hi hri)
      rw [famWants_eq] at hw
      rw [rho_eval] at hv1
      obtain ⟨_, hal, hfree⟩ := c.float i (by simpa using hifl)
      have hal' : isAlloc ops[i] = false := by unfold allocAt at hal; simpa [hio] using hal
      have inv' := inv.put c hoi hi hri (Grows.refl w) hv2 (fun h => by rw [hal'] at h; cases h)
      have hks : i < listed.size := by omega
      have hk' : unl (listed.setIfInBounds i true) n = k := by
        have := unl_set hks hf (n := n)
        rw [if_pos hi] at this
        omega
      refine wpAny_first hoi (Region.noSelect_spec c.sel) (fun x a' w' => hQ x a' _ _ w') _ listed a w (fun j oj hj hne hun hno => ?_) hri (.inl ⟨hw, hv1⟩) (ih _ _ w hk' inv')
      refine Region.free_spec hoi hfree j oj hj hne ?_ hno
      have hjs : j < ops.size := (Array.getElem?_eq_some_iff.1 hj).1
      have hmin : ((Array.ofFn fun k : Fin ops.size => decide (k.val < n) && !fl.contains k.val).getD j true) = (decide (j < n) && !fl.contains j) := by simp [hjs]
      rw [hmin]
      cases e : fl.contains j with
      | true => simp
      | false =>
        rcases Nat.lt_or_ge j n with h | h
        · exact absurd ⟨j, h, e, hun⟩ hfl
        · simp; omega

/-- THE LAW: as wp_fam; fl: the operations that float; what is allotted is apart. -/
theorem wp_famF {P : Program} {id n size : Nat} {l : List Oper} {D : List Nat} {a : Act} {w : World} {Q : Exit → Act → World → Prop} (fl : List Nat) (Fs : List (Nat × StG)) (hm : P.follows .mixedOrders = true) (hs : a.tmps.size = size) (hB : famFB l.toArray n size D fl = true)
    (hQ : ∀ (x : List PanicEntry) (a : Act) (d : Option Tmp) (v : Value) (w : World), Q (.panic x) (a.put d v) w → Q (.panic x) a w)
    (hok : famAllF P l.toArray D Fs a w fl 0 (l.take n))
    (hend : ∀ (u : Nat → Value) (w' : World), Grows w w' → (∀ s ∈ D, famOf Fs s (u s) w') → (∀ i j d d', i < n → j < n → i ≠ j → allocAt l.toArray i = true → allocAt l.toArray j = true → famDst l.toArray i = some d → famDst l.toArray j = some d' → u d ≠ u d') → wpList P l.toArray Q (l.drop n) (fill u D a) w') : (Code.region id l.toArray true).wp P Q a w := by
  subst hs
  have c := famFB_spec hB
  refine wp_region_any hm ?_
  have inv0 : FInv l.toArray n D Fs a w (Array.replicate l.toArray.size false) a { w with drawn := w.drawn + 1 } :=
    ⟨⟨⟨by simp, fun j oj _ hl => (by rw [getD_replicate_false] at hl; cases hl), fun t _ ht => getD_in (by simpa using ht) (getD_replicate_false _ _)⟩,
      Grows.drew w 1, rfl, rfl, fun i d _ _ hl => (by rw [getD_replicate_false] at hl; cases hl), fun s _ => rfl⟩, fun i d _ _ _ hl => (by rw [getD_replicate_false] at hl; cases hl), fun i j d d' _ _ _ _ _ _ _ hl => (by rw [getD_replicate_false] at hl; cases hl)⟩
  have := famF_any (Q := Q) c hQ hok hend n _ a _ (unl_start _ n) inv0
  rwa [show n + (l.toArray.size - n) = l.toArray.size by have := c.lt; omega] at this
end Go.Proofs.Ytegppdobpihbnaa
