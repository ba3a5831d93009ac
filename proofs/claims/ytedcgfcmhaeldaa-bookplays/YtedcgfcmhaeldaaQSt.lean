/- FamY, where an operation that X tells of reads a temporary that another one of the region fills later. | Layer 8, the document's own: Seen. | Layer 8, the document's own: Stands. -/
import Derived.Test.YtedcgfcmhaeldaaFam
import Derived.Test.YtedcgfcmhaeldaaQRef
import Derived.Test.YtedcgfcmhaeldaaQDot
import Derived.Test.YtedcgfcmhaeldaaBkAdd
import Derived.Test.YtedcgfcmhaeldaaQLaw
import Derived.Test.YtedcgfcmhaeldaaBkP11

section
namespace Go.Proofs.Ytedcgfcmhaeldaa
set_option linter.unusedVariables false
set_option linter.unusedSimpArgs false
open Go.RowKit

def famZ0 (ops : Array Oper) (size : Nat) (D sp spd : List Nat) : Bool :=
  decide ((List.range ops.size).filterMap (famDst ops) = D) && D.all (fun d => decide (d < size)) &&
  (List.range ops.size).all (fun i => (List.range ops.size).all fun j => decide (i = j) || famDst ops i == none || decide (famDst ops i ≠ famDst ops j)) &&
  (List.range ops.size).all (fun i => match ops[i]? with
    | some o => (o.looksAt ops).all (fun s => (sp.contains i && spd.contains s) || (List.range ops.size).all fun j => !(famDst ops j == some s) || Region.waitsFor .any ops i j) && o.after.all (fun e => !Region.binds .any e || decide (e.on < i))
    | none => false) &&
  Region.seqB .any ops (ops.size - ops.size) ops.size (Array.replicate ops.size true ++ Array.replicate (ops.size - ops.size) false)
structure FamCZ (ops : Array Oper) (size : Nat) (D sp spd : List Nat) : Prop where
  lists : (List.range ops.size).filterMap (famDst ops) = D
  within : ∀ d ∈ D, d < size
  apart : ∀ i j, i < ops.size → j < ops.size → i ≠ j → famDst ops i = none ∨ famDst ops i ≠ famDst ops j
  waits : ∀ i o, i < ops.size → ops[i]? = some o → ∀ s ∈ o.looksAt ops, (sp.contains i && spd.contains s) = false → ∀ j, j < ops.size → famDst ops j = some s → Region.waitsFor .any ops i j = true
  back : ∀ i o, i < ops.size → ops[i]? = some o → ∀ e ∈ o.after, Region.binds .any e = true → e.on < i
  seq : Region.seqB .any ops (ops.size - ops.size) ops.size (Array.replicate ops.size true ++ Array.replicate (ops.size - ops.size) false) = true
theorem famZ0_spec {ops : Array Oper} {size : Nat} {D sp spd : List Nat} (h : famZ0 ops size D sp spd = true) : FamCZ ops size D sp spd := by
  unfold famZ0 at h
  simp only [Bool.and_eq_true, Bool.or_eq_true, decide_eq_true_eq, List.all_eq_true, List.mem_range] at h
  obtain ⟨⟨⟨⟨h3, h4⟩, h5⟩, h6⟩, h10⟩ := h
  refine ⟨h3, h4, fun i j hi hj hij => ?_, fun i o hi ho s hs hx j hj hd => ?_, fun i o hi ho e he hb => ?_, h10⟩
  · rcases h5 i hi j hj with (h | h) | h
    · exact absurd h hij
    · exact .inl (by simpa using h)
    · exact .inr h
  · have := h6 i hi
    rw [ho] at this
    simp only [Bool.and_eq_true, Bool.or_eq_true, List.all_eq_true, List.mem_range] at this
    rcases this.1 s hs with h | h
    · rw [h.1, h.2] at hx; cases hx
    · have h' := h j hj
      rcases h' with h' | h'
      · simp [hd] at h'
      · exact h'
  · have := h6 i hi
    rw [ho] at this
    simp only [Bool.and_eq_true, Bool.or_eq_true, List.all_eq_true, decide_eq_true_eq] at this
    have h2 := Array.all_eq_true_iff_forall_mem.1 this.2 e he
    simpa [hb] using h2
def famZB (ops : Array Oper) (size : Nat) (D sp spd : List Nat) : Bool :=
  famZ0 ops size D sp spd && (List.range ops.size).all fun i => sp.contains i || match famDst ops i with
    | some d => !spd.contains d
    | none => true
theorem mem_DZ {ops : Array Oper} {size : Nat} {D sp spd : List Nat} (c : FamCZ ops size D sp spd) {d : Nat} : d ∈ D ↔ ∃ i, i < ops.size ∧ famDst ops i = some d := by
  rw [← c.lists, List.mem_filterMap]
  simp only [List.mem_range]

section
variable (P : Program) (ops : Array Oper) (D : List Nat) (Fs : List (Nat × StR Tt)) (a0 : Act) (X : Say) (spd : List Nat)
def FamZSp (i : Nat) (o : Oper) : Prop :=
  ∀ (L : Nat → Bool) (f : Nat → Value) (w : World), L i = false → (∀ j k, Region.waitsFor .any ops j k = true → L j = true → L k = true) → (∀ k, Region.waitsFor .any ops i k = true → L k = true) → X L f w → (∀ s ∈ o.looksAt ops, spd.contains s = false → famAt D Fs a0 s (f s) w) →
    (famWants ops o f = true → famUpon P (fun v w' => (∀ d, o.dst = some d → famOf Fs d v w') ∧ X (lst1 L i) (updT f o.dst v) w') ((execOp (rho f) o).run P w)) ∧
    (famWants ops o f = false → (∀ d, o.dst = some d → famOf Fs d undef w) ∧ X (lst1 L i) (updT f o.dst undef) w)
def famAllZ (sp : List Nat) : Nat → List Oper → Prop
  | _, [] => True
  | k, o :: l => (if sp.contains k then FamZSp P ops D Fs a0 X spd k o else FamYOk P ops D Fs a0 o) ∧ famAllZ sp (k + 1) l
end
theorem famAllZ_at {P : Program} {ops : Array Oper} {D : List Nat} {Fs : List (Nat × StR Tt)} {a0 : Act} {X : Say} {spd sp : List Nat} : ∀ {l : List Oper} {k : Nat}, famAllZ P ops D Fs a0 X spd sp k l → ∀ (i : Nat) (o : Oper), l[i]? = some o → if sp.contains (k + i) then FamZSp P ops D Fs a0 X spd (k + i) o else FamYOk P ops D Fs a0 o
  | [], _, _, i, o, h => by simp at h
  | x :: l, k, h, 0, o, e => by simp at e; subst e; exact h.1
  | x :: l, k, h, i + 1, o, e => by have := famAllZ_at h.2 i o (by simpa using e); rwa [show k + 1 + i = k + (i + 1) by omega] at this
structure ZInv (ops : Array Oper) (D : List Nat) (Fs : List (Nat × StR Tt)) (X : Say) (a0 : Act) (w0 : World) (listed : Array Bool) (a : Act) (w : World) : Prop where
  base : FamInv ops ops.size D Fs a0 w0 listed a w
  say : X (fun j => listed.getD j false) (fun t => a.tmps.getD t undef) w
section
variable {R : World → World → Prop} {P : Program} {ops : Array Oper} {D sp spd : List Nat} {Fs : List (Nat × StR R)} {a0 : Act} {w0 : World} {listed : Array Bool} {a : Act} {w : World} {Q : Exit → Act → World → Prop}
theorem ZInv.put (hR : Pre R) (c : FamCZ ops a0.tmps.size D sp spd) (inv : FamInv ops ops.size D Fs a0 w0 listed a w) {i : Nat} {o : Oper} (ho : ops[i]? = some o) (hi : i < ops.size) (hr : i ∈ Region.ready .any ops listed) {v : Value} {w' : World} (hg : R w w') (hv : ∀ d, o.dst = some d → famOf Fs d v w') :
    FamInv ops ops.size D Fs a0 w0 (listed.setIfInBounds i true) (a.put o.dst v) w' ∧ (∀ d, o.dst = some d → (a.put o.dst v).tmps.getD d undef = v) ∧ (∀ j d, j < ops.size → j ≠ i → famDst ops j = some d → (a.put o.dst v).tmps.getD d undef = a.tmps.getD d undef) := by
  have hlt : i < listed.size := by rw [inv.head.size]; exact hi
  have hdst : famDst ops i = o.dst := by unfold famDst; rw [ho]; rfl
  have here : ∀ d, o.dst = some d → (a.put o.dst v).tmps.getD d undef = v := fun d hd => by
    have hD : d ∈ D := (mem_DZ c).2 ⟨i, hi, by rw [hdst]; exact hd⟩
    have hs := c.within d hD
    rw [hd]; simp [Act.put, inv.size, hs]
  have there : ∀ j d, j < ops.size → j ≠ i → famDst ops j = some d → (a.put o.dst v).tmps.getD d undef = a.tmps.getD d undef := fun j d hj hij hd => by
    cases hd' : o.dst with
    | none => rfl
    | some d' =>
      have hne : d' ≠ d := fun e => by
        subst e
        rcases c.apart j i hj hi hij with h | h
        · rw [hd] at h; cases h
        · exact h (by rw [hd, hdst, hd'])
      simp [Act.put, Array.getElem?_setIfInBounds_ne hne]
  refine ⟨⟨inv.head.set hr hi, hR.trans inv.grows hg, ?_, ?_, fun j d hj hd hl => ?_, fun s hs => ?_⟩, here, there⟩
  · rw [← inv.defers]; cases o.dst <;> rfl
  · rw [← inv.size]; cases o.dst <;> simp [Act.put]
  · by_cases hij : j = i
    · subst hij
      rw [hdst] at hd
      rw [here d hd]
      exact hv d hd
    · rw [getD_set_ne false (Ne.symm hij)] at hl
      rw [there j d hj hij hd]
      exact famOf_up Fs d hg (inv.done j d hj hd hl)
  · have hne : o.dst ≠ some s := fun e => by
      have := hs i hi (by rw [hdst]; exact e)
      simp [hlt] at this
    have h1 := inv.rest s (fun j hj hd => by
      have := hs j hj hd
      by_cases hij : i = j
      · subst hij; exact absurd (hdst ▸ hd) hne
      · rwa [getD_set_ne false hij] at this)
    rw [← h1]
    cases hd' : o.dst with
    | none => rfl
    | some d' => simp [Act.put, Array.getElem?_setIfInBounds_ne (fun e : d' = s => hne (by rw [hd', e]))]
end
section
variable {P : Program} {ops : Array Oper} {D sp spd : List Nat} {Fs : List (Nat × StR Tt)} {X : Say} {a0 : Act} {w0 : World} {listed : Array Bool} {a : Act} {w : World} {Q : Exit → Act → World → Prop}
theorem ZInv.step (hX : ∀ (L L' : Nat → Bool) (f f' : Nat → Value) (w w' : World), (∀ j ∈ sp, L' j = L j) → (∀ s ∈ spd, f' s = f s) → Grows w w' → X L f w → X L' f' w') (c : FamCZ ops a0.tmps.size D sp spd) (hsp : ∀ i, i < ops.size → sp.contains i = false → ∀ d, famDst ops i = some d → d ∉ spd)
    (inv : ZInv ops D Fs X a0 w0 listed a w) {i : Nat} {o : Oper} (ho : ops[i]? = some o) (hi : i < ops.size) (hr : i ∈ Region.ready .any ops listed) (hok : if sp.contains i then FamZSp P ops D Fs a0 X spd i o else FamYOk P ops D Fs a0 o) :
    wpOp P ops Q i (fun a' w' => ZInv ops D Fs X a0 w0 (listed.setIfInBounds i true) a' w') a w := by
  obtain ⟨hun, o', ho', hall⟩ := mem_ready.1 hr
  obtain rfl : o' = o := Option.some.inj (ho'.symm.trans ho)
  have hlt : i < listed.size := by rw [inv.base.head.size]; exact hi
  have hdst : famDst ops i = o'.dst := by unfold famDst; rw [ho]; rfl
  have facts : ∀ s ∈ o'.looksAt ops, (sp.contains i && spd.contains s) = false → famAt D Fs a0 s ((fun t => a.tmps.getD t undef) s) w := fun s hs hsx => by
    unfold famAt
    by_cases hD : s ∈ D
    · rw [if_pos (by simpa using hD)]
      obtain ⟨j, hj, hd⟩ := (mem_DZ c).1 hD
      obtain ⟨o2, ho2, e, he, hb, hon⟩ := Region.waitsFor_spec (c.waits i o' hi ho s hs hsx j hj hd)
      obtain rfl : o2 = o' := Option.some.inj (ho2.symm.trans ho)
      have := hall e he hb
      rw [hon] at this
      exact inv.base.done j s hj hd this
    · rw [if_neg (by simpa using hD)]
      have := inv.base.rest s (fun j hj hd => absurd ((mem_DZ c).2 ⟨j, hj, hd⟩) hD)
      simp only [Array.getD_eq_getD_getElem?, this]
  have eL : (fun j => (listed.setIfInBounds i true).getD j false) = lst1 (fun j => listed.getD j false) i := by
    funext j
    unfold lst1
    by_cases h : j = i
    · subst h; simp [hlt]
    · rw [if_neg h, getD_set_ne false (Ne.symm h)]
  have eF : ∀ v, (fun t => (a.put o'.dst v).tmps.getD t undef) = updT (fun t => a.tmps.getD t undef) o'.dst v := fun v => by
    funext t
    unfold updT
    cases hd : o'.dst with
    | none => simp [Act.put]
    | some d =>
      have hs : d < a.tmps.size := by rw [inv.base.size]; exact c.within d ((mem_DZ c).2 ⟨i, hi, by rw [hdst]; exact hd⟩)
      by_cases h : d = t
      · subst h; simp [Act.put, hs]
      · rw [if_neg (fun e => h (by injection e))]; simp [Act.put, Array.getElem?_setIfInBounds_ne h]
  have fin : ∀ v w', (∀ d, o'.dst = some d → famOf Fs d v w') → X (lst1 (fun j => listed.getD j false) i) (updT (fun t => a.tmps.getD t undef) o'.dst v) w' → ZInv ops D Fs X a0 w0 (listed.setIfInBounds i true) (a.put o'.dst v) w' := fun v w' hv hx => by
    have h1 := (ZInv.put Tt.pre c inv.base ho hi hr (w' := w') trivial hv).1
    refine ⟨h1, ?_⟩
    rw [eL, eF]
    exact hx
  unfold wpOp
  simp only [ho]
  split at hok
  · have hcl : ∀ j k, Region.waitsFor .any ops j k = true → (fun j => listed.getD j false) j = true → (fun j => listed.getD j false) k = true := fun j k hw hj => by
      obtain ⟨oj, hoj, e, he, hb, hon⟩ := Region.waitsFor_spec hw
      have := inv.base.head.closed j oj hoj hj e he hb
      rw [hon] at this
      exact this
    have hwt : ∀ k, Region.waitsFor .any ops i k = true → (fun j => listed.getD j false) k = true := fun k hw => by
      obtain ⟨oj, hoj, e, he, hb, hon⟩ := Region.waitsFor_spec hw
      obtain rfl : oj = o' := Option.some.inj (hoj.symm.trans ho)
      have := hall e he hb
      rw [hon] at this
      exact this
    have ok := hok (fun j => listed.getD j false) (fun t => a.tmps.getD t undef) w (getD_both hun) hcl hwt inv.say (fun s hs hx => facts s hs (by rw [hx, Bool.and_false]))
    rw [famWants_eq, rho_eval] at ok
    split
    · rename_i hw
      refine .inl ?_
      have := ok.1 hw
      unfold Oper.wp
      generalize (execOp a.eval o').run P w = r at *
      cases r with
      | ok nx w' =>
        cases nx <;> simp only [famUpon] at this <;> simp only [Oper.upon]
        case value v => exact fin v w' this.1 this.2
        case skip => exact fin undef w' this.1 this.2
        case enter f args =>
          refine this.mono fun e w'' he => ?_
          obtain ⟨v, rfl, h1, h2⟩ := he
          exact fin v w'' h1 h2
      | halt x w' => simp only [famUpon] at this
    · rename_i hw
      have := ok.2 (by simpa using hw)
      exact fin undef w this.1 this.2
  · have hns : sp.contains i = false := by simpa using ‹¬ sp.contains i = true›
    have pl : ∀ v w', Grows w w' → X (lst1 (fun j => listed.getD j false) i) (updT (fun t => a.tmps.getD t undef) o'.dst v) w' := fun v w' hg => by
      refine hX _ _ _ _ w w' (fun j hj => ?_) (fun s hs => ?_) hg inv.say
      · unfold lst1
        rw [if_neg]
        rintro rfl
        have : sp.contains j = true := by simpa using hj
        rw [this] at hns; cases hns
      · unfold updT
        rw [if_neg]
        intro e
        exact hsp i hi hns s (by rw [hdst]; exact e) hs
    have ok := hok (fun t => a.tmps.getD t undef) w (fun s hs => facts s hs (by rw [hns, Bool.false_and]))
    rw [famWants_eq, rho_eval] at ok
    split
    · rename_i hw
      refine .inl ?_
      have := ok.1 hw
      unfold Oper.wp
      generalize (execOp a.eval o').run P w = r at *
      cases r with
      | ok nx w' =>
        cases nx <;> simp only [famUpon] at this <;> simp only [Oper.upon]
        case value v => exact fin v w' this.2 (pl v w' this.1)
        case skip => exact fin undef w' this.2 (pl undef w' this.1)
        case enter f args =>
          refine this.mono fun e w'' he => ?_
          obtain ⟨v, rfl, h1, h2⟩ := he
          exact fin v w'' h2 (pl v w'' h1)
      | halt x w' => simp only [famUpon] at this
    · rename_i hw
      have := ok.2 (by simpa using hw)
      exact fin undef w this (pl undef w (Grows.refl w))
end

theorem famZ_any {P : Program} {ops : Array Oper} {D sp spd : List Nat} {Fs : List (Nat × StR Tt)} {X : Say} {a0 : Act} {w0 : World} {Q : Exit → Act → World → Prop}
    (hX : ∀ (L L' : Nat → Bool) (f f' : Nat → Value) (w w' : World), (∀ j ∈ sp, L' j = L j) → (∀ s ∈ spd, f' s = f s) → Grows w w' → X L f w → X L' f' w') (c : FamCZ ops a0.tmps.size D sp spd) (hsp : ∀ i, i < ops.size → sp.contains i = false → ∀ d, famDst ops i = some d → d ∉ spd)
    (hok : famAllZ P ops D Fs a0 X spd sp 0 ops.toList)
    (hend : ∀ (L : Nat → Bool) (u : Nat → Value) (w' : World), (∀ j, j < ops.size → L j = true) → X L u w' → (∀ s ∈ D, famOf Fs s (u s) w') → wpList P ops Q [] (fill u D a0) w') :
    ∀ (k : Nat) (listed : Array Bool) (a : Act) (w : World), unl listed ops.size = k → ZInv ops D Fs X a0 w0 listed a w → wpAny P .any ops Q k listed a w := by
  intro k
  induction k with
  | zero =>
    intro listed a w hk inv
    have hl := unl_zero hk
    have e : listed = Array.replicate ops.size true ++ Array.replicate (ops.size - ops.size) false := by
      refine Array.ext_getElem? fun i => ?_
      have hs := inv.base.head.size
      rcases Nat.lt_or_ge i ops.size with h | h
      · have := hl i h
        have h2 : i < listed.size := by omega
        simp [h2] at this
        simp [h2, this, h]
      · rw [Array.getElem?_eq_none (by omega), Array.getElem?_eq_none (by simpa using h)]
    have ha : a = fill (fun s => a.tmps.getD s undef) D a0 := by
      refine act_ext (by rw [fill_defers, inv.base.defers]) fun s => ?_
      rw [fill_get]
      by_cases hD : s ∈ D
      · have := c.within s hD
        rw [if_pos ⟨hD, this⟩]
        have h2 : s < a.tmps.size := by rw [inv.base.size]; exact this
        simp [h2]
      · rw [if_neg (fun h => hD h.1)]
        exact inv.base.rest s fun i hi hd => absurd ((mem_DZ c).2 ⟨i, hi, hd⟩) hD
    have H := hend (fun j => listed.getD j false) (fun s => a.tmps.getD s undef) w hl inv.say (fun s hs => by
      obtain ⟨i, hi, hd⟩ := (mem_DZ c).1 hs
      exact inv.base.done i s hi hd (hl i hi))
    rw [← ha] at H
    exact wpAny_of_seq (md := .any) (Q' := Q) (ops := ops) (P := P) [] ops.size listed a w (fun j => by simp) (by rw [e]; have := c.seq; rwa [Nat.sub_self] at this ⊢) H
  | succ k ih =>
    intro listed a w hk inv
    obtain ⟨i, hi, hf, hall⟩ := unl_least (listed := listed) (n := ops.size) (by omega)
    have hs := inv.base.head.size
    have hoi : ops[i]? = some ops[i] := by simp [hi]
    have hri : i ∈ Region.ready .any ops listed := mem_ready.2 ⟨getD_in (by omega) hf, ops[i], hoi, fun e he hb => hall _ (c.back i _ hi hoi e he hb)⟩
    refine ⟨fun h => (by rw [h] at hri; cases hri), fun j hj => ?_⟩
    obtain ⟨hun, o, ho, _⟩ := mem_ready.1 hj
    have hjn : j < ops.size := (Array.getElem?_eq_some_iff.1 ho).1
    have hjs : j < listed.size := by rw [hs]; exact hjn
    have hob := famAllZ_at hok j o (by simpa using ho)
    rw [Nat.zero_add] at hob
    refine wpOp_mono (fun a' w' inv' => ih _ a' w' ?_ inv') (inv.step hX c hsp ho hjn hj hob)
    have := unl_set hjs (getD_both hun) (n := ops.size)
    rw [if_pos hjn] at this
    omega

/-- THE LAW: as wp_fam, over the whole region; X is said of the world throughout; sp: the operations that turn it; spd: the temporaries that it speaks of. -/
theorem wp_famZ {P : Program} {id size : Nat} {l : List Oper} {D : List Nat} {a : Act} {w : World} {Q : Exit → Act → World → Prop} (sp spd : List Nat) (Fs : List (Nat × StR Tt)) (X : Say)
    (hX : ∀ (L L' : Nat → Bool) (f f' : Nat → Value) (w w' : World), (∀ j ∈ sp, L' j = L j) → (∀ s ∈ spd, f' s = f s) → Grows w w' → X L f w → X L' f' w')
    (hm : P.follows .mixedOrders = true) (hs : a.tmps.size = size) (hB : famZB l.toArray size D sp spd = true)
    (h0 : X (fun _ => false) (fun t => a.tmps.getD t undef) w)
    (hok : famAllZ P l.toArray D Fs a X spd sp 0 l)
    (hend : ∀ (L : Nat → Bool) (u : Nat → Value) (w' : World), (∀ j, j < l.length → L j = true) → X L u w' → (∀ s ∈ D, famOf Fs s (u s) w') → wpList P l.toArray Q [] (fill u D a) w') : (Code.region id l.toArray true).wp P Q a w := by
  subst hs
  unfold famZB at hB
  rw [Bool.and_eq_true] at hB
  have hB1 := hB.1
  replace hB := hB.2
  have c := famZ0_spec hB1
  simp only [List.all_eq_true, List.mem_range] at hB
  have hsp : ∀ i, i < l.toArray.size → sp.contains i = false → ∀ d, famDst l.toArray i = some d → d ∉ spd := fun i hi hs d hd => by
    have := hB i hi
    rw [hs, hd] at this
    simpa using this
  refine wp_region_any hm ?_
  have inv0 : ZInv l.toArray D Fs X a w (Array.replicate l.toArray.size false) a { w with drawn := w.drawn + 1 } :=
    ⟨⟨⟨by simp, fun j oj _ hl => (by rw [getD_replicate_false] at hl; cases hl), fun t _ ht => getD_in (by simpa using ht) (getD_replicate_false _ _)⟩,
      trivial, rfl, rfl, fun i d _ _ hl => (by rw [getD_replicate_false] at hl; cases hl), fun s _ => rfl⟩, hX _ _ _ _ w _ (fun j _ => getD_replicate_false _ _) (fun _ _ => rfl) (Grows.drew w 1) h0⟩
  exact famZ_any (Q := Q) hX c hsp hok (fun L u w' hL => hend L u w' (by simpa using hL)) _ _ a _ (unl_start _ _) inv0
end Go.Proofs.Ytedcgfcmhaeldaa
end

section
namespace Go.Proofs.Ytedcgfcmhaeldaa
set_option linter.unusedVariables false
set_option linter.unusedSimpArgs false
open Go.ChangeShapes Go.WideShapes Go.ChangeAt Go.RowKit

theorem lst_contains (S : D.Dot → Bool) {d : D.Dot} (h : D.may d = true) : (D.lst S).contains d = S d := by
  rw [Bool.eq_iff_iff, List.contains_iff_mem, D.mem_lst]
  simp [h]

set_option maxRecDepth 100000 in
set_option maxHeartbeats 4000000 in
theorem rseen_any {g : Nat} {T : TypeId} {Z : Nat → Prop} {saw : D.Dot → Bool} {m : List EvV} {t : Int} {w : World} (hM : MB w g T Z saw m t) :
    Calls Try.prog 20 #[.pointer (some ⟨g, 0, none⟩)] w (SetPost (D.cU saw) (D.cM saw) w) := by
  obtain ⟨w1, hw1⟩ : ∃ W, w.alloc (.cells (scs (fun _ => 0) none 0 0) 51) = W := ⟨_, rfl⟩
  obtain ⟨gz, hgz⟩ : ∃ q, q = w.heap.size := ⟨_, rfl⟩
  have hb1 : Below w.heap.size w w1 := by rw [← hw1]; exact b_alloc _ _
  have hs1 := hb1.size
  have hZ1 : Blo w1 gz 51 (scs (fun _ => 0) none 0 0) := by rw [← hw1, hgz]; exact Blo.made _ _ _
  have hdo := rdots_any (hM.new hb1)
  have HU : Hid (∀ j, j < 8 → D.cU (fun d => (D.lst saw).contains d) j = D.cU saw j) := Lib.hid (fun j hj => D.cU_congr hj fun d hd => lst_contains saw hd)
  have HMM : Hid (D.cM (fun d => (D.lst saw).contains d) = D.cM saw) := Lib.hid (D.cM_congr fun d hd => lst_contains saw hd)
  obtain ⟨L, hL⟩ : ∃ L, L = D.lst saw := ⟨_, rfl⟩
  rw [← hL] at hdo HU HMM
  obtain ⟨N, hN⟩ : ∃ k, L.length = k := ⟨_, rfl⟩
  have hNb : N ≤ 1000000 := by rw [← hN, hL]; exact Nat.le_trans (D.lst_len _) (by omega)
  have HN := Lib.hid hN
  have HW := Lib.hid hw1
  have HGZ := Lib.hid hgz
  clear hw1 hgz hM hL hN
  go_enter Try.func20, Try.ntmps20
  go_wp2_with fail
  rw [HW.out, ← HGZ.out]
  refine hdo.mono ?_
  rintro e w2 ⟨A2, c2, rfl, hD2, hb2⟩
  rw [HN.out]
  have hof := of_any _ A2 N c2 L w2 HN.out hD2.rdsT hNb
  have hs2 := hb2.size
  clear hdo
  go_wp2_with fail
  refine hof.mono ?_
  rintro e w3 ⟨A3, c3, rfl, hD3, hb3⟩
  have hZ3 := (hZ1.new hb2).new hb3
  have hlt := hZ1.lt
  have hb03 := below_new (below_new hb1 hb2) hb3
  obtain ⟨U, hU⟩ : ∃ U, U = D.cU fun d => L.contains d := ⟨_, rfl⟩
  obtain ⟨M, hM⟩ : ∃ M, M = D.cM fun d => L.contains d := ⟨_, rfl⟩
  rw [← hU, ← hM]
  rw [← hM] at hD3 HMM
  rw [← hU] at HU
  obtain ⟨n, hn⟩ : ∃ k, M.length = k := ⟨_, rfl⟩
  rw [hn] at hD3 ⊢
  have HN3 := Lib.hid hn
  clear hof hD2 hU hM hn
  go_wp2_with (refine wpList_setv _ rfl 51 _ _ rfl Try.sizeRef gz _ rfl U A3 n c3 rfl hZ3 rfl ?_)
  intro w5 hZ5 hg5
  have hgz0 : w.heap.size ≤ gz := by have := HGZ.out; omega
  have hD5 : DRow w5 w2.heap.size (.slice A3 n c3) M := hD3.grown hg5 (fun b hb e => by injection e with e; have := (hD3.lt b hb).1; omega)
  have hb5 : Below w.heap.size w w5 := hb03.grown hg5 hb03.size (fun k hk => by injection hk with hk; omega)
  obtain ⟨y0, y1, y2, y3, y4, y5, y6, y7, y8⟩ := set9 hZ5
  go_wp2
  refine bodyPost_ret (v := sv U A3 n c3) ?_ rfl ?_
  · simp [results, Try.results20, go_sem, y0, y1, y2, y3, y4, y5, y6, y7, y8]
  refine ⟨A3, c3, ?_, ?_, hb5⟩
  · rw [sv_congr HU.out, ← HMM.out, HN3.out]
  · rw [← HMM.out, HN3.out]; exact hD5.mono (by omega)
end Go.Proofs.Ytedcgfcmhaeldaa
end

section
namespace Go.Proofs.Ytedcgfcmhaeldaa
set_option linter.unusedVariables false
set_option linter.unusedSimpArgs false
open Go.ChangeShapes Go.WideShapes Go.ChangeAt Go.RowKit

/-- The dots that the document gathers. -/
def stRow (work : Int) (l : List EvV) : List D.Dot := l.flatMap fun e => if Go.Proofs.Ytedcgfcmhaeldaa.B.ofPol work (e.F, e.M) then (e.F 0, e.F 1) :: e.M else []
theorem stRow_yes {work : Int} {l : List EvV} {i : Nat} (h : i < l.length) (hp : Go.Proofs.Ytedcgfcmhaeldaa.B.ofPol work (l[i].F, l[i].M) = true) : stRow work (l.take (i + 1)) = stRow work (l.take i) ++ [(l[i].F 0, l[i].F 1)] ++ l[i].M := by
  unfold stRow
  rw [List.take_succ_eq_append_getElem h, List.flatMap_append]
  simp [hp]
theorem stRow_no {work : Int} {l : List EvV} {i : Nat} (h : i < l.length) (hp : Go.Proofs.Ytedcgfcmhaeldaa.B.ofPol work (l[i].F, l[i].M) = false) : stRow work (l.take (i + 1)) = stRow work (l.take i) := by
  unfold stRow
  rw [List.take_succ_eq_append_getElem h, List.flatMap_append]
  simp [hp]
theorem stRow_has {b : B.Bk} {work : Int} {l : List EvV} (hp : plain l = b.hold) (d : D.Dot) : (stRow work l).contains d = Go.Proofs.Ytedcgfcmhaeldaa.B.stD b work d := by
  rw [Bool.eq_iff_iff, List.contains_iff_mem, Go.Proofs.Ytedcgfcmhaeldaa.B.stD_iff, ← hp]
  unfold stRow plain
  simp only [List.mem_flatMap, List.mem_map]
  constructor
  · rintro ⟨e, he, hd⟩
    by_cases q : Go.Proofs.Ytedcgfcmhaeldaa.B.ofPol work (e.F, e.M) = true
    · rw [if_pos q] at hd
      exact ⟨_, ⟨e, he, rfl⟩, q, List.mem_cons.1 hd⟩
    · rw [if_neg q] at hd; cases hd
  · rintro ⟨_, ⟨e, he, rfl⟩, q, hd⟩
    refine ⟨e, he, ?_⟩
    rw [if_pos q]
    exact List.mem_cons.2 hd
/-- Whatever the order of 'l = append(append(l, e.Dot), e.Removes...)'. -/
def SX (V : World) (B gx : Nat) (F : Nat → Int) (Ax : Option Addr) (q cx : Nat) (M : List D.Dot) (A6 : Option Addr) (N6 c6 : Nat) (l : List D.Dot) : Say := fun L f W =>
  (Below B V W ∧ V.heap.size ≤ W.heap.size) ∧ Blo W gx 43 (ecs F Ax q cx) ∧
  (L 0 = false → f 6 = .slice A6 N6 c6) ∧
  (L 3 = true → L 4 = false → ∃ b, f 31 = .slice (some ⟨b, 0, none⟩) 1 1 ∧ Blo W b 39 #[.int .i64 (F 0), .int .i64 (F 1)]) ∧
  (L 4 = false → DRow W B (.slice A6 N6 c6) l) ∧
  (L 4 = true → L 7 = false → ∃ A2 c2, f 32 = .slice A2 (N6 + 1) c2 ∧ DRow W B (.slice A2 (N6 + 1) c2) (l ++ [(F 0, F 1)])) ∧
  (L 7 = true → ∃ A3 c3, f 35 = .slice A3 (N6 + 1 + q) c3 ∧ DRow W B (.slice A3 (N6 + 1 + q) c3) (l ++ [(F 0, F 1)] ++ M) ∧ (L 8 = true → f 6 = .slice A3 (N6 + 1 + q) c3))
section
variable {V : World} {B gx : Nat} {F : Nat → Int} {Ax : Option Addr} {q cx : Nat} {M : List D.Dot} {A6 : Option Addr} {N6 c6 : Nat} {l : List D.Dot} {L : Nat → Bool} {f : Nat → Value} {W W' : World}
theorem SX.up (hB : B ≤ V.heap.size) : ∀ (L L' : Nat → Bool) (f f' : Nat → Value) (W W' : World), (∀ j ∈ [0, 2, 3, 4, 6, 7, 8], L' j = L j) → (∀ s ∈ [31, 32, 35, 6], f' s = f s) → Grows W W' → SX V B gx F Ax q cx M A6 N6 c6 l L f W → SX V B gx F Ax q cx M A6 N6 c6 l L' f' W' := by
  intro L L' f f' W W' hL hf hg ⟨k1, k2, k0, k3, k4, k5, k6⟩
  unfold SX
  rw [hL 0 (by decide), hL 3 (by decide), hL 4 (by decide), hL 7 (by decide), hL 8 (by decide), hf 31 (by decide), hf 32 (by decide), hf 35 (by decide), hf 6 (by decide)]
  refine ⟨⟨k1.1.trans (Below.mono hg (Nat.le_trans hB k1.2)), Nat.le_trans k1.2 (Below.size hg)⟩, k2.new hg, k0, fun e e' => ?_, fun e => (k4 e).new hg, fun e e' => ?_, fun e => ?_⟩
  · obtain ⟨b, e1, e2⟩ := k3 e e'
    exact ⟨b, e1, e2.new hg⟩
  · obtain ⟨A2, c2, e1, e2⟩ := k5 e e'
    exact ⟨A2, c2, e1, e2.new hg⟩
  · obtain ⟨A3, c3, e1, e2, e3⟩ := k6 e
    exact ⟨A3, c3, e1, e2.new hg, e3⟩
theorem SX.pass {i d : Nat} {v : Value} (hi : i ≠ 3 ∧ i ≠ 4 ∧ i ≠ 7 ∧ i ≠ 8 ∧ i ≠ 0) (hd : d ≠ 31 ∧ d ≠ 32 ∧ d ≠ 35 ∧ d ≠ 6) (h : SX V B gx F Ax q cx M A6 N6 c6 l L f W) : SX V B gx F Ax q cx M A6 N6 c6 l (lst1 L i) (updT f (some d) v) W := by
  unfold SX at *
  have e : ∀ j, j ≠ i → lst1 L i j = L j := fun j hj => by unfold lst1; rw [if_neg hj]
  have ef : ∀ s, d ≠ s → updT f (some d) v s = f s := fun s hs => by unfold updT; rw [if_neg (fun e => hs (by injection e))]
  rw [e 0 (Ne.symm hi.2.2.2.2), e 3 (Ne.symm hi.1), e 4 (Ne.symm hi.2.1), e 7 (Ne.symm hi.2.2.1), e 8 (Ne.symm hi.2.2.2.1), ef 31 hd.1, ef 32 hd.2.1, ef 35 hd.2.2.1, ef 6 hd.2.2.2]
  exact h
theorem SX.lit (hB : B ≤ V.heap.size) (h : SX V B gx F Ax q cx M A6 N6 c6 l L f W) (h4 : L 4 = false) (h7 : L 7 = false) (h8 : L 8 = false) :
    SX V B gx F Ax q cx M A6 N6 c6 l (lst1 L 3) (updT f (some 31) (.slice (some ⟨W.heap.size, 0, none⟩) 1 1)) (W.alloc (.cells #[.int .i64 (F 0), .int .i64 (F 1)] 39)) := by
  have hg : Grows W (W.alloc (.cells #[.int .i64 (F 0), .int .i64 (F 1)] 39)) := Grows.alloc _ _
  obtain ⟨k1, k2, k0, k3, k4, k5, k6⟩ := h
  unfold SX
  simp only [lst1, updT, Option.some.injEq, show ¬ (31 : Nat) = 6 by decide, h4, h7, h8, if_true, show ¬ (0 : Nat) = 3 by decide, show ¬ (4 : Nat) = 3 by decide, show ¬ (7 : Nat) = 3 by decide, show ¬ (8 : Nat) = 3 by decide, if_false]
  exact ⟨⟨k1.1.trans (Below.mono hg (Nat.le_trans hB k1.2)), Nat.le_trans k1.2 (Below.size hg)⟩, k2.new hg, k0, fun _ _ => ⟨_, rfl, Blo.made _ _ _⟩, fun _ => (k4 h4).new hg, fun e => (by cases e), fun e => (by cases e)⟩
theorem SX.app {A2 : Option Addr} {c2 : Nat} (hB : B ≤ V.heap.size) (h : SX V B gx F Ax q cx M A6 N6 c6 l L f W) (h4 : L 4 = false) (h7 : L 7 = false) (h8 : L 8 = false)
    (hR : DRow W' B (.slice A2 (N6 + 1) c2) (l ++ [(F 0, F 1)])) (hg : W.grownBy W' (Value.slice A6 N6 c6).ownBlock) :
    SX V B gx F Ax q cx M A6 N6 c6 l (lst1 L 4) (updT f (some 32) (.slice A2 (N6 + 1) c2)) W' := by
  obtain ⟨k1, k2, k0, k3, k4, k5, k6⟩ := h
  have hO := k4 h4
  unfold SX
  simp only [lst1, updT, Option.some.injEq, show ¬ (32 : Nat) = 6 by decide, h7, h8, if_true, show ¬ (0 : Nat) = 4 by decide, show ¬ (3 : Nat) = 4 by decide, show ¬ (7 : Nat) = 4 by decide, show ¬ (8 : Nat) = 4 by decide, if_false]
  exact ⟨⟨k1.1.grown hg (Nat.le_trans hB k1.2) (fun k hk => (hO.lt k hk).1), Nat.le_trans k1.2 hg.size⟩, k2.grown hg (fun e => hO.blo k2 (by decide) e.symm), k0, fun _ e => (by cases e), fun e => (by cases e), fun _ _ => ⟨A2, c2, rfl, hR⟩, fun e => (by cases e)⟩
theorem SX.app2 {A2 A3 : Option Addr} {c2 c3 : Nat} (hB : B ≤ V.heap.size) (h : SX V B gx F Ax q cx M A6 N6 c6 l L f W) (h4 : L 4 = true) (h7 : L 7 = false) (h8 : L 8 = false) (hO : DRow W B (.slice A2 (N6 + 1) c2) (l ++ [(F 0, F 1)]))
    (hR : DRow W' B (.slice A3 (N6 + 1 + q) c3) (l ++ [(F 0, F 1)] ++ M)) (hg : W.grownBy W' (Value.slice A2 (N6 + 1) c2).ownBlock) :
    SX V B gx F Ax q cx M A6 N6 c6 l (lst1 L 7) (updT f (some 35) (.slice A3 (N6 + 1 + q) c3)) W' := by
  obtain ⟨k1, k2, k0, k3, k4, k5, k6⟩ := h
  unfold SX
  simp only [lst1, updT, Option.some.injEq, show ¬ (35 : Nat) = 6 by decide, h4, h8, if_true, show ¬ (0 : Nat) = 7 by decide, show ¬ (3 : Nat) = 7 by decide, show ¬ (4 : Nat) = 7 by decide, show ¬ (8 : Nat) = 7 by decide, if_false]
  exact ⟨⟨k1.1.grown hg (Nat.le_trans hB k1.2) (fun k hk => (hO.lt k hk).1), Nat.le_trans k1.2 hg.size⟩, k2.grown hg (fun e => hO.blo k2 (by decide) e.symm), k0, fun _ e => (by cases e), fun e => (by cases e), fun _ e => (by cases e), fun _ => ⟨A3, c3, rfl, hR, fun e => (by cases e)⟩⟩
theorem SX.set (h : SX V B gx F Ax q cx M A6 N6 c6 l L f W) (h0 : L 0 = true) (h4 : L 4 = true) (h7 : L 7 = true) {v : Value} (hv : f 35 = v) : SX V B gx F Ax q cx M A6 N6 c6 l (lst1 L 8) (updT f (some 6) v) W := by
  obtain ⟨k1, k2, k0, k3, k4, k5, k6⟩ := h
  unfold SX
  simp only [lst1, updT, h0, h4, h7, if_true, show ¬ (0 : Nat) = 8 by decide, show ¬ (3 : Nat) = 8 by decide, show ¬ (4 : Nat) = 8 by decide, show ¬ (7 : Nat) = 8 by decide, if_false]
  refine ⟨k1, k2, fun e => (by cases e), fun _ e => (by cases e), fun e => (by cases e), fun _ e => (by cases e), fun _ => ?_⟩
  obtain ⟨A3, c3, e1, e2, _⟩ := k6 h7
  exact ⟨A3, c3, by simpa using e1, e2, fun _ => by rw [← hv]; exact e1⟩
theorem SX.mv {v : Value} (h : SX V B gx F Ax q cx M A6 N6 c6 l L f W) : SX V B gx F Ax q cx M A6 N6 c6 l (lst1 L 0) (updT f (some 28) v) W := by
  unfold SX at *
  have e : ∀ j, j ≠ 0 → lst1 L 0 j = L j := fun j hj => by unfold lst1; rw [if_neg hj]
  have ef : ∀ s, 28 ≠ s → updT f (some 28) v s = f s := fun s hs => by unfold updT; rw [if_neg (fun e => hs (by injection e))]
  rw [e 3 (by decide), e 4 (by decide), e 7 (by decide), e 8 (by decide), ef 31 (by decide), ef 32 (by decide), ef 35 (by decide), ef 6 (by decide)]
  exact ⟨h.1, h.2.1, fun e => (by simp [lst1] at e), h.2.2.2⟩
theorem SX.fin (h : SX V B gx F Ax q cx M A6 N6 c6 l L f W) (h7 : L 7 = true) (h8 : L 8 = true) : Below B V W ∧ ∃ A3 c3, f 6 = .slice A3 (N6 + 1 + q) c3 ∧ DRow W B (.slice A3 (N6 + 1 + q) c3) (l ++ [(F 0, F 1)] ++ M) := by
  obtain ⟨k1, k2, k0, k3, k4, k5, k6⟩ := h
  obtain ⟨A3, c3, e1, e2, e3⟩ := k6 h7
  exact ⟨k1.1, A3, c3, e3 h8, e2⟩
end
/-- How far it has come. -/
def StSt (w0 : World) (work : Int) (m : List EvV) (i : Nat) (v : Value) (w : World) : Prop :=
  ∃ A N c l, v = .slice A N c ∧ Hid (N = l.length ∧ l = stRow work (m.take i)) ∧ N ≤ i * 1000 ∧ DRow w w0.heap.size (.slice A N c) l ∧ Below w0.heap.size w0 w

set_option maxRecDepth 100000 in
set_option maxHeartbeats 8000000 in
theorem rstands_any {g : Nat} {T : TypeId} {Z : Nat → Prop} {b : B.Bk} {m : List EvV} {w : World} (work : Int) (hM : MB w g T Z b.saw m b.time) (hpl : plain m = b.hold) (hok : B.Ok b) :
    Calls Try.prog 25 #[.pointer (some ⟨g, 0, none⟩), .int .i64 work] w (StandsP b work w) := by
  obtain ⟨cs, Ah, Nh, ch, hK⟩ := hM
  have hNh : Nh ≤ 768 := by rw [hK.len, ← plain_len, hpl]; exact hold_len hok
  have hNhb : Nh ≤ 1000000 := by omega
  have HNh := Lib.hid hK.len
  have HN7 : Hid (Nh ≤ 768) := Lib.hid hNh
  have HSH : Hid (∀ e ∈ m, e.M.length ≤ 96) := Lib.hid (fun e he => by
    have h1 : (e.F, e.M) ∈ b.hold := by rw [← hpl]; exact List.mem_map.2 ⟨e, he, rfl⟩
    exact (B.right_may (hok.rt _ h1)).2.2.2.2)
  have HPL := Lib.hid hpl
  have hrm : ERds w (fun x => x < w.heap.size) Ah m := ⟨hK.own.erds.1.old.mono fun b hb => hb.2, fun e he => (hK.own.erds.2 e he).old.mono fun b hb => hb.2⟩
  have x784 : w.cell? ⟨g, 784, none⟩ = some (.slice Ah Nh ch) := (hK.blo.cell _).trans hK.hold
  have h0 : StSt w work m 0 (.slice none 0 0) w := ⟨none, 0, 0, [], rfl, Lib.hid ⟨rfl, rfl⟩, by omega, DRow.nil _ _, Below.refl _ _⟩
  clear hNh hpl hK
  go_enter Try.func25, Try.ntmps25
  go_wp2_with fail
  clear x784
  go_loopw [6, 15] (fun lv iv wr => ∃ i : Nat, iv = .int .i64 i ∧ i ≤ Nh ∧ StSt w work m i lv wr) (fun _ iv _ => Nh - (intOf iv).toNat)
  case atStart => exact ⟨0, rfl, by omega, h0⟩
  case round =>
    obtain ⟨i, rfl, hi, A6, N6, cc, ll, rfl, HL, hNb, hD, hbr⟩ := hrel
    clear h0
    by_cases hlt : i < Nh
    · have hlt' : i < m.length := by rw [← HNh.out]; exact hlt
      have hlong := HSH.out m[i] (List.getElem_mem hlt')
      have HYES := Lib.hid (fun h => stRow_yes (work := work) hlt' h)
      have HNO := Lib.hid (fun h => stRow_no (work := work) hlt' h)
      obtain ⟨ad, rfl, _, hrx, c0, c1, c2, c3, c4, c5, c6, c7, c8, c9, c10, c11, c12, c13⟩ := (hrm.below hbr fun b hb _ => hb).cells hlt'
      obtain ⟨x, hx⟩ : ∃ x, x = m[i] := ⟨_, rfl⟩
      rw [← hx] at hrx c0 c1 c2 c3 c4 c5 c6 c7 c8 c9 c10 c11 c12 c13 hlong HYES HNO
      obtain ⟨F, M, Ax, cx⟩ := x
      simp only at hrx c0 c1 c2 c3 c4 c5 c6 c7 c8 c9 c10 c11 c12 c13 hlong HYES HNO
      obtain ⟨q, hq⟩ : ∃ q, M.length = q := ⟨_, rfl⟩
      rw [hq] at c13 hlong
      have hqb : N6 + 1 + q ≤ (i + 1) * 1000 := by omega
      have hqm : N6 + 1 + q ≤ 1000000 := by have := HN7.out; omega
      have HQ := Lib.hid hq
      obtain ⟨w5, hw5⟩ : ∃ W, wr.alloc (.cells (ecs F Ax q cx) 43) = W := ⟨_, rfl⟩
      obtain ⟨gx, hgx⟩ : ∃ q, q = wr.heap.size := ⟨_, rfl⟩
      have hb5 : Below wr.heap.size wr w5 := by rw [← hw5]; exact b_alloc _ _
      have hX5 : Blo w5 gx 43 (ecs F Ax q cx) := by rw [← hw5, hgx]; exact Blo.made _ _ _
      have hD5 := hD.new hb5
      have hbr5 := below_new hbr hb5
      have hrx5 := hrx.new hb5
      have hB5 : w.heap.size ≤ w5.heap.size := hbr5.size
      have HW5 := Lib.hid hw5
      have HGX := Lib.hid hgx
      clear hx hq hw5 hgx hlong hD hbr hrx hb5
      by_cases h3 : F 3 = 1
      · have HE := HNO.out (by simp [Go.Proofs.Ytedcgfcmhaeldaa.B.ofPol, h3])
        have HL' : Hid (N6 = ll.length ∧ ll = stRow work (m.take (i + 1))) := Lib.hid ⟨HL.out.1, HL.out.2.trans HE.symm⟩
        have h3' : (F 3 != 1) = false := by simpa using h3
        clear h3 HE HYES HNO
        go_wp2
        go_roundw
        case rel => exact ⟨i + 1, by go_num, by omega, A6, N6, cc, ll, rfl, HL', by omega, by rw [HW5.out]; exact hD5, by rw [HW5.out]; exact hbr5⟩
        case measure => simp [intOf]; omega
      · have h3' : (F 3 != 1) = true := by simpa using h3
        by_cases h4 : F 4 = work
        · have HE := HYES.out (by simp [Go.Proofs.Ytedcgfcmhaeldaa.B.ofPol, h3, h4])
          have HL' : Hid (N6 + 1 + q = (ll ++ [(F 0, F 1)] ++ M).length ∧ ll ++ [(F 0, F 1)] ++ M = stRow work (m.take (i + 1))) := Lib.hid ⟨by rw [List.length_append, List.length_append, ← HL.out.1, HQ.out]; rfl, by rw [HE, ← HL.out.2]⟩
          have h4' : (F 4 == work) = true := by simpa using h4
          have HX0 : Hid (∀ f : Nat → Value, f 6 = .slice A6 N6 cc → SX w5 w.heap.size gx F Ax q cx M A6 N6 cc ll (fun _ => false) f w5) := Lib.hid (fun f hf => ⟨⟨Below.refl _ _, Nat.le_refl _⟩, hX5, fun _ => hf, fun e => (by cases e), fun _ => hD5, fun e => (by cases e), fun e => (by cases e)⟩)
          have HRX := Lib.hid hrx5
          clear h3 h4 HE HYES HNO hD5 hrx5 hX5
          go_wp2_with fail
          rw [HW5.out, ← HGX.out]
          refine wp_famZ (size := 44) (D := [28, 29, 30, 31, 32, 33, 34, 35, 6]) [0, 2, 3, 4, 6, 7, 8] [31, 32, 35, 6] [(28, isV (.slice A6 N6 cc)), (29, isV (.pointer (some ⟨gx, 0, none⟩))), (30, isV (.agg #[.int .i64 (F 0), .int .i64 (F 1)])), (33, isV (.pointer (some ⟨gx, 13, none⟩))), (34, isV (.slice Ax q cx))] (SX w5 w.heap.size gx F Ax q cx M A6 N6 cc ll) (SX.up hB5) (by kernel_rfl) (by rfl) (by kernel_rfl) (HX0.out _ rfl) ?_ ?_
          · simp only [famAllZ]
            repeat' apply And.intro
            · rw [if_pos (by decide)]
              intro L f W hi hcl hwt hX hl
              simp [Oper.looksAt, Op.operands, Call.operands, famAt, famOf, isV] at hl
              have e6 := hX.2.2.1 hi
              simp [famWants, execOp, rho, go_sem, e6, famUpon, famOf, isV]
              exact hX.mv
            · rw [if_neg (by decide)]
              intro f W hl
              simp [Oper.looksAt, Op.operands, Call.operands, famAt, famOf, isV] at hl
              simp [famWants, execOp, rho, go_sem, hl, famUpon, famOf, isV, Grows.refl]
            · rw [if_pos (by decide)]
              intro L f W hi hcl hwt hX hl
              simp [Oper.looksAt, Op.operands, Call.operands, famAt, famOf, isV] at hl
              obtain ⟨z0, z1, z2, z3, z4, z5, z6, z7, z8, z9, z10, z11, z12, z13⟩ := set14 hX.2.1
              simp [famWants, execOp, rho, go_sem, hl, z0, z1, z2, z3, z4, z5, z6, z7, z8, z9, z10, z11, z12, z13, famUpon, famOf, isV]
              exact hX.pass (by decide) (by decide)
            · rw [if_pos (by decide)]
              intro L f W hi hcl hwt hX hl
              simp [Oper.looksAt, Op.operands, Call.operands, famAt, famOf, isV] at hl
              have h4 : L 4 = false := by
                cases e : L 4 with
                | false => rfl
                | true => rw [hcl 4 3 (by kernel_rfl) e] at hi; cases hi
              have h7 : L 7 = false := by
                cases e : L 7 with
                | false => rfl
                | true => rw [hcl 7 4 (by kernel_rfl) e] at h4; cases h4
              have h8 : L 8 = false := by
                cases e : L 8 with
                | false => rfl
                | true => rw [hcl 8 7 (by kernel_rfl) e] at h7; cases h7
              simp [famWants, execOp, rho, go_sem, hl, famUpon, famOf, isV]
              exact hX.lit hB5 h4 h7 h8
            · rw [if_pos (by decide)]
              intro L f W hi hcl hwt hX hl
              simp [Oper.looksAt, Op.operands, Call.operands, famAt, famOf, isV] at hl
              have h7 : L 7 = false := by
                cases e : L 7 with
                | false => rfl
                | true => rw [hcl 7 4 (by kernel_rfl) e] at hi; cases hi
              have h8 : L 8 = false := by
                cases e : L 8 with
                | false => rfl
                | true => rw [hcl 8 7 (by kernel_rfl) e] at h7; cases h7
              have h3 : L 3 = true := hwt 3 (by kernel_rfl)
              obtain ⟨b9, e31, hBb⟩ := hX.2.2.2.1 h3 hi
              have hrw := hX.2.2.2.2.1 hi
              obtain ⟨v', W', hrun, hR', hg', hv'⟩ := run_dapp W w.heap.size 24 (.slice A6 N6 cc) ll hrw (fun _ => True) (some ⟨b9, 0, none⟩) 1 1 [(F 0, F 1)] rfl (blo_rds hBb) (by rw [← HL.out.1]; omega) (Nat.le_trans hB5 hX.1.2)
              obtain ⟨A2, c2, rfl, _⟩ := hR'.form
              have hlen : (ll ++ [((F 0, F 1) : D.Dot)]).length = N6 + 1 := by rw [List.length_append, ← HL.out.1]; rfl
              rw [hlen] at hrun hR'
              refine ⟨fun _ => ?_, fun hh => ?_⟩
              · simp only [execOp, resolve, invoke, builtin, rho, Sem.run_bind, Sem.run_pure, Result.andThen_ok, List.map_toArray, List.map_cons, List.map_nil, hl, e31, hrun, famUpon]
                exact ⟨fun d hd => by cases hd; exact trivial, hX.app hB5 hi h7 h8 hR' hg'⟩
              · simp [famWants] at hh
            · rw [if_neg (by decide)]
              intro f W hl
              simp [Oper.looksAt, Op.operands, Call.operands, famAt, famOf, isV] at hl
              simp [famWants, execOp, rho, go_sem, hl, famUpon, famOf, isV, Grows.refl]
            · rw [if_pos (by decide)]
              intro L f W hi hcl hwt hX hl
              simp [Oper.looksAt, Op.operands, Call.operands, famAt, famOf, isV] at hl
              obtain ⟨z0, z1, z2, z3, z4, z5, z6, z7, z8, z9, z10, z11, z12, z13⟩ := set14 hX.2.1
              simp [famWants, execOp, rho, go_sem, hl, z0, z1, z2, z3, z4, z5, z6, z7, z8, z9, z10, z11, z12, z13, famUpon, famOf, isV]
              exact hX.pass (by decide) (by decide)
            · rw [if_pos (by decide)]
              intro L f W hi hcl hwt hX hl
              simp [Oper.looksAt, Op.operands, Call.operands, famAt, famOf, isV] at hl
              have h8 : L 8 = false := by
                cases e : L 8 with
                | false => rfl
                | true => rw [hcl 8 7 (by kernel_rfl) e] at hi; cases hi
              have h4 : L 4 = true := hwt 4 (by kernel_rfl)
              obtain ⟨A2, c2, e32, hO2⟩ := hX.2.2.2.2.2.1 h4 hi
              have hlen1 : (ll ++ [((F 0, F 1) : D.Dot)]).length = N6 + 1 := by rw [List.length_append, ← HL.out.1]; rfl
              have hrdW : Rds W (fun b => b < w.heap.size) Ax (dvs M) := HRX.out.below hX.1.1 fun b hb _ => hb
              obtain ⟨v', W', hrun, hR', hg', hv'⟩ := run_dapp W w.heap.size 24 (.slice A2 (N6 + 1) c2) (ll ++ [(F 0, F 1)]) hO2 _ Ax q cx M HQ.out hrdW (by rw [hlen1]; exact hqm) (Nat.le_trans hB5 hX.1.2)
              obtain ⟨A3, c3, rfl, _⟩ := hR'.form
              rw [← HL'.out.1] at hrun hR'
              refine ⟨fun _ => ?_, fun hh => ?_⟩
              · simp only [execOp, resolve, invoke, builtin, rho, Sem.run_bind, Sem.run_pure, Result.andThen_ok, List.map_toArray, List.map_cons, List.map_nil, hl, e32, hrun, famUpon]
                exact ⟨fun d hd => by cases hd; exact trivial, hX.app2 hB5 h4 hi h8 hO2 hR' hg'⟩
              · simp [famWants] at hh
            · rw [if_pos (by decide)]
              intro L f W hi hcl hwt hX hl
              simp [Oper.looksAt, Op.operands, Call.operands, famAt, famOf, isV] at hl
              have h7 : L 7 = true := hwt 7 (by kernel_rfl)
              have h4 : L 4 = true := hcl 7 4 (by kernel_rfl) h7
              have h0 : L 0 = true := hcl 4 0 (by kernel_rfl) h4
              obtain ⟨A3, c3, e35, _⟩ := hX.2.2.2.2.2.2 h7
              simp [famWants, execOp, rho, go_sem, e35, famUpon, famOf, isV]
              exact hX.set h0 h4 h7 e35
            · trivial
          · intro L' u W hL hX hu
            obtain ⟨q1, A3, c3, e6, q4⟩ := hX.fin (hL 7 (by decide)) (hL 8 (by decide))
            simp only [fill, Act.put, List.setIfInBounds_toArray, List.set_cons_zero, List.set_cons_succ, e6]
            refine wpList_nil ?_
            have hbW : Below w.heap.size w W := hbr5.trans q1
            clear hu hL hX HX0 HRX e6
            go_wp2
            go_roundw
            case rel => exact ⟨i + 1, by go_num, by omega, A3, N6 + 1 + q, c3, _, rfl, HL', hqb, q4, hbW⟩
            case measure => simp [intOf]; omega
        · have HE := HNO.out (by simp [Go.Proofs.Ytedcgfcmhaeldaa.B.ofPol, h4])
          have HL' : Hid (N6 = ll.length ∧ ll = stRow work (m.take (i + 1))) := Lib.hid ⟨HL.out.1, HL.out.2.trans HE.symm⟩
          have h4' : (F 4 == work) = false := by simpa using h4
          clear h3 h4 HE HYES HNO
          go_wp2
          go_roundw
          case rel => exact ⟨i + 1, by go_num, by omega, A6, N6, cc, ll, rfl, HL', by omega, by rw [HW5.out]; exact hD5, by rw [HW5.out]; exact hbr5⟩
          case measure => simp [intOf]; omega
    · have HLL : Hid (ll = stRow work m) := Lib.hid (by rw [HL.out.2, List.take_of_length_le (by rw [← HNh.out]; omega)])
      have hN6 : N6 ≤ 1000000 := by have := HN7.out; omega
      have hof := of_any _ A6 N6 cc ll wr HL.out.1.symm hD.rdsT hN6
      have HST : Hid (D.lst (D.has (D.cU fun d => ll.contains d) (D.cM fun d => ll.contains d)) = Go.Proofs.Ytedcgfcmhaeldaa.B.stL b work) := Lib.hid (by
        rw [HLL.out]
        exact D.lst_congr fun d hd => by rw [D.cl_has, hd, stRow_has HPL.out]; rfl)
      obtain ⟨U, hU⟩ : ∃ U, U = D.cU fun d => ll.contains d := ⟨_, rfl⟩
      obtain ⟨M, hMM⟩ : ∃ M, M = D.cM fun d => ll.contains d := ⟨_, rfl⟩
      rw [← hU, ← hMM] at hof HST
      obtain ⟨n, hn⟩ : ∃ k, M.length = k := ⟨_, rfl⟩
      have hnl : n ≤ 1000000 := by rw [← hn, hMM]; exact Nat.le_trans (D.cM_len _) (by omega)
      have HN := Lib.hid hn
      clear hU hMM hn hrm
      go_wp2_with fail
      refine hof.mono ?_
      rintro e w2 ⟨A2, c2, rfl, hD2, hb2⟩
      rw [HN.out]
      have hli := rlist_any _ U A2 n c2 M w2 HN.out hD2.rdsT hnl
      rw [HST.out] at hli
      have hbr2 := below_new hbr hb2
      obtain ⟨L, hL⟩ : ∃ L, L = Go.Proofs.Ytedcgfcmhaeldaa.B.stL b work := ⟨_, rfl⟩
      rw [← hL] at hli
      obtain ⟨N3, hN3⟩ : ∃ k, L.length = k := ⟨_, rfl⟩
      have HL3 := Lib.hid hL
      have HN3 := Lib.hid hN3
      clear hof hL hN3 hD hD2
      go_wp2_with fail
      refine hli.mono ?_
      rintro e w3 ⟨A3, c3, rfl, hD3, hb3⟩
      rw [HN3.out] at hD3 ⊢
      have hb03 := below_new hbr2 hb3
      have hs3 := hbr2.size
      clear hli
      by_cases hgt : 96 < N3
      · have HE : Hid (Go.Proofs.Ytedcgfcmhaeldaa.B.stE b work = 7) := Lib.hid (by unfold Go.Proofs.Ytedcgfcmhaeldaa.B.stE; rw [← HL3.out, HN3.out, if_pos hgt])
        have HA : Hid (Go.Proofs.Ytedcgfcmhaeldaa.B.stA b work = []) := Lib.hid (by unfold Go.Proofs.Ytedcgfcmhaeldaa.B.stA; rw [HE.out, if_neg (by decide)])
        have hgt2 : decide ((96 : Int) < (N3 : Int)) = true := by simp; omega
        clear hgt
        go_wp2
        go_ret2
        refine ⟨none, 0, ?_, ?_, hb03⟩
        · rw [HE.out, HA.out]; rfl
        · rw [HA.out]; exact DRow.nil _ _
      · have HE : Hid (Go.Proofs.Ytedcgfcmhaeldaa.B.stE b work = 0) := Lib.hid (by unfold Go.Proofs.Ytedcgfcmhaeldaa.B.stE; rw [← HL3.out, HN3.out, if_neg hgt])
        have HA : Hid (Go.Proofs.Ytedcgfcmhaeldaa.B.stA b work = L) := Lib.hid (by unfold Go.Proofs.Ytedcgfcmhaeldaa.B.stA; rw [HE.out, if_pos rfl, HL3.out])
        have hgt2 : decide ((96 : Int) < (N3 : Int)) = false := by simp; omega
        clear hgt
        go_wp2
        go_ret2
        refine ⟨A3, c3, ?_, ?_, hb03⟩
        · rw [HE.out, HA.out, HN3.out]; rfl
        · rw [HA.out, HN3.out]; exact hD3.mono (by omega)
end Go.Proofs.Ytedcgfcmhaeldaa
end

