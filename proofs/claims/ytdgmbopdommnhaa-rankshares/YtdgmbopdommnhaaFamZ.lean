/- FamY, where an operation that X tells of reads a temporary that another one of the region fills later. -/
import Derived.Test.YtdgmbopdommnhaaFam
namespace Go.Proofs.Ytdgmbopdommnhaa
set_option linter.unusedVariables false
set_option linter.unusedSimpArgs false
open Go.RowKit

def famZ0 (ops : Array Oper) (size : Nat) (D sp spd : List Nat) : Bool :=
  decide ((List.range ops.size).filterMap (famDst ops) = D) && D.all (fun d => decide (d < size)) &&
  (List.range ops.size).all (fun i => (List.range ops.size).all fun j => decide (i = j) || famDst ops i == none || decide (famDst ops i ≠ famDst ops j)) &&
  (List.range ops.size).all (fun i => match ops[i]? with
    | some o => (o.looksAt ops).all (fun s => (sp.contains i && spd.contains s) || (List.range ops.size).all fun j => !(famDst ops j == some s) || Region.waitsFor .any ops i j) && o.after.all (fun e => !Region.binds .any e || decide (e.on < i))
    | none => false) &&
  Region.seqB .any ops (ops.size - ops.size) ops.size (Array.replicate ops.size true ++ Array.replicate (ops.size - ops.size) false)
structure FamCZ (ops : Array Oper) (size : Nat) (D sp spd : List Nat) : Prop where
  lists : (List.range ops.size).filterMap (famDst ops) = D
  within : ∀ d ∈ D, d < size
  apart : ∀ i j, i < ops.size → j < ops.size → i ≠ j → famDst ops i = none ∨ famDst ops i ≠ famDst ops j
  waits : ∀ i o, i < ops.size → ops[i]? = some o → ∀ s ∈ o.looksAt ops, (sp.contains i && spd.contains s) = false → ∀ j, j < ops.size → famDst ops j = some s → Region.waitsFor .any ops i j = true
  back : ∀ i o, i < ops.size → ops[i]? = some o → ∀ e ∈ o.after, Region.binds .any e = true → e.on < i
  seq : Region.seqB .any ops (ops.size - ops.size) ops.size (Array.replicate ops.size true ++ Array.replicate (ops.size - ops.size) false) = true
theorem famZ0_spec {ops : Array Oper} {size : Nat} {D sp spd : List Nat} (h : famZ0 ops size D sp spd = true) : FamCZ ops size D sp spd := by
  unfold famZ0 at h
  simp only [Bool.and_eq_true, Bool.or_eq_true, decide_eq_true_eq, List.all_eq_true, List.mem_range] at h
  obtain ⟨⟨⟨⟨h3, h4⟩, h5⟩, h6⟩, h10⟩ := h
  refine ⟨h3, h4, fun i j hi hj hij => ?_, fun i o hi ho s hs hx j hj hd => ?_, fun i o hi ho e he hb => ?_, h10⟩
  · rcases h5 i hi j hj with (h | h) | h
    · exact absurd h hij
    · exact .inl (by simpa using h)
    · exact .inr h
  · have := h6 i hi
    rw [ho] at this
    simp only [Bool.and_eq_true, Bool.or_eq_true, List.all_eq_true, List.mem_range] at this
    rcases this.1 s hs with h | h
    · rw [h.1, h.2] at hx; cases hx
    · have h' := h j hj
      rcases h' with h' | h'
      · simp [hd] at h'
      · exact h'
  · have := h6 i hi
    rw [ho] at this
    simp only [Bool.and_eq_true, Bool.or_eq_true, List.all_eq_true, decide_eq_true_eq] at this
    have h2 := Array.all_eq_true_iff_forall_mem.1 this.2 e he
    simpa [hb] using h2
def famZB (ops : Array Oper) (size : Nat) (D sp spd : List Nat) : Bool :=
  famZ0 ops size D sp spd && (List.range ops.size).all fun i => sp.contains i || match famDst ops i with
    | some d => !spd.contains d
    | none => true
theorem mem_DZ {ops : Array Oper} {size : Nat} {D sp spd : List Nat} (c : FamCZ ops size D sp spd) {d : Nat} : d ∈ D ↔ ∃ i, i < ops.size ∧ famDst ops i = some d := by
  rw [← c.lists, List.mem_filterMap]
  simp only [List.mem_range]

section
variable (P : Program) (ops : Array Oper) (D : List Nat) (Fs : List (Nat × StR Tt)) (a0 : Act) (X : Say) (spd : List Nat)
def FamZSp (i : Nat) (o : Oper) : Prop :=
  ∀ (L : Nat → Bool) (f : Nat → Value) (w : World), L i = false → (∀ j k, Region.waitsFor .any ops j k = true → L j = true → L k = true) → (∀ k, Region.waitsFor .any ops i k = true → L k = true) → X L f w → (∀ s ∈ o.looksAt ops, spd.contains s = false → famAt D Fs a0 s (f s) w) →
    (famWants ops o f = true → famUpon P (fun v w' => (∀ d, o.dst = some d → famOf Fs d v w') ∧ X (lst1 L i) (updT f o.dst v) w') ((execOp (rho f) o).run P w)) ∧
    (famWants ops o f = false → (∀ d, o.dst = some d → famOf Fs d undef w) ∧ X (lst1 L i) (updT f o.dst undef) w)
def famAllZ (sp : List Nat) : Nat → List Oper → Prop
  | _, [] => True
  | k, o :: l => (if sp.contains k then FamZSp P ops D Fs a0 X spd k o else FamYOk P ops D Fs a0 o) ∧ famAllZ sp (k + 1) l
end
theorem famAllZ_at {P : Program} {ops : Array Oper} {D : List Nat} {Fs : List (Nat × StR Tt)} {a0 : Act} {X : Say} {spd sp : List Nat} : ∀ {l : List Oper} {k : Nat}, famAllZ P ops D Fs a0 X spd sp k l → ∀ (i : Nat) (o : Oper), l[i]? = some o → if sp.contains (k + i) then FamZSp P ops D Fs a0 X spd (k + i) o else FamYOk P ops D Fs a0 o
  | [], _, _, i, o, h => by simp at h
  | x :: l, k, h, 0, o, e => by simp at e; subst e; exact h.1
  | x :: l, k, h, i + 1, o, e => by have := famAllZ_at h.2 i o (by simpa using e); rwa [show k + 1 + i = k + (i + 1) by omega] at this
structure ZInv (ops : Array Oper) (D : List Nat) (Fs : List (Nat × StR Tt)) (X : Say) (a0 : Act) (w0 : World) (listed : Array Bool) (a : Act) (w : World) : Prop where
  base : FamInv ops ops.size D Fs a0 w0 listed a w
  say : X (fun j => listed.getD j false) (fun t => a.tmps.getD t undef) w
section
variable {R : World → World → Prop} {P : Program} {ops : Array Oper} {D sp spd : List Nat} {Fs : List (Nat × StR R)} {a0 : Act} {w0 : World} {listed : Array Bool} {a : Act} {w : World} {Q : Exit → Act → World → Prop}
theorem ZInv.put (hR : Pre R) (c : FamCZ ops a0.tmps.size D sp spd) (inv : FamInv ops ops.size D Fs a0 w0 listed a w) {i : Nat} {o : Oper} (ho : ops[i]? = some o) (hi : i < ops.size) (hr : i ∈ Region.ready .any ops listed) {v : Value} {w' : World} (hg : R w w') (hv : ∀ d, o.dst = some d → famOf Fs d v w') :
    FamInv ops ops.size D Fs a0 w0 (listed.setIfInBounds i true) (a.put o.dst v) w' ∧ (∀ d, o.dst = some d → (a.put o.dst v).tmps.getD d undef = v) ∧ (∀ j d, j < ops.size → j ≠ i → famDst ops j = some d → (a.put o.dst v).tmps.getD d undef = a.tmps.getD d undef) := by
  have hlt : i < listed.size := by rw [inv.head.size]; exact hi
  have hdst : famDst ops i = o.dst := by unfold famDst; rw [ho]; rfl
  have here : ∀ d, o.dst = some d → (a.put o.dst v).tmps.getD d undef = v := fun d hd => by
    have hD : d ∈ D := (mem_DZ c).2 ⟨i, hi, by rw [hdst]; exact hd⟩
    have hs := c.within d hD
    rw [hd]; simp [Act.put, inv.size, hs]
  have there : ∀ j d, j < ops.size → j ≠ i → famDst ops j = some d → (a.put o.dst v).tmps.getD d undef = a.tmps.getD d undef := fun j d hj hij hd => by
    cases hd' : o.dst with
    | none => rfl
    | some d' =>
      have hne : d' ≠ d := fun e => by
        subst e
        rcases c.apart j i hj hi hij with h | h
        · rw [hd] at h; cases h
        · exact h (by rw [hd, hdst, hd'])
      simp [Act.put, Array.getElem?_setIfInBounds_ne hne]
  refine ⟨⟨inv.head.set hr hi, hR.trans inv.grows hg, ?_, ?_, fun j d hj hd hl => ?_, fun s hs => ?_⟩, here, there⟩
  · rw [← inv.defers]; cases o.dst <;> rfl
  · rw [← inv.size]; cases o.dst <;> simp [Act.put]
  · by_cases hij : j = i
    · subst hij
      rw [hdst] at hd
      rw [here d hd]
      exact hv d hd
    · rw [getD_set_ne false (Ne.symm hij)] at hl
      rw [there j d hj hij hd]
      exact famOf_up Fs d hg (inv.done j d hj hd hl)
  · have hne : o.dst ≠ some s := fun e => by
      have := hs i hi (by rw [hdst]; exact e)
      simp [hlt] at this
    have h1 := inv.rest s (fun j hj hd => by
      have := hs j hj hd
      by_cases hij : i = j
      · subst hij; exact absurd (hdst ▸ hd) hne
      · rwa [getD_set_ne false hij] at this)
    rw [← h1]
    cases hd' : o.dst with
    | none => rfl
    | some d' => simp [Act.put, Array.getElem?_setIfInBounds_ne (fun e : d' = s => hne (by rw [hd', e]))]
end
section
variable {P : Program} {ops : Array Oper} {D sp spd : List Nat} {Fs : List (Nat × StR Tt)} {X : Say} {a0 : Act} {w0 : World} {listed : Array Bool} {a : Act} {w : World} {Q : Exit → Act → World → Prop}
theorem ZInv.step (hX : ∀ (L L' : Nat → Bool) (f f' : Nat → Value) (w w' : World), (∀ j ∈ sp, L' j = L j) → (∀ s ∈ spd, f' s = f s) → Grows w w' → X L f w → X L' f' w') (c : FamCZ ops a0.tmps.size D sp spd) (hsp : ∀ i, i < ops.size → sp.contains i = false → ∀ d, famDst ops i = some d → d ∉ spd)
    (inv : ZInv ops D Fs X a0 w0 listed a w) {i : Nat} {o : Oper} (ho : ops[i]? = some o) (hi : i < ops.size) (hr : i ∈ Region.ready .any ops listed) (hok : if sp.contains i then FamZSp P ops D Fs a0 X spd i o else FamYOk P ops D Fs a0 o) :
    wpOp P ops Q i (fun a' w' => ZInv ops D Fs X a0 w0 (listed.setIfInBounds i true) a' w') a w := by
  obtain ⟨hun, o', ho', hall⟩ := mem_ready.1 hr
  obtain rfl : o' = o := Option.some.inj (ho'.symm.trans ho)
  have hlt : i < listed.size := by rw [inv.base.head.size]; exact hi
  have hdst : famDst ops i = o'.dst := by unfold famDst; rw [ho]; rfl
  have facts : ∀ s ∈ o'.looksAt ops, (sp.contains i && spd.contains s) = false → famAt D Fs a0 s ((fun t => a.tmps.getD t undef) s) w := fun s hs hsx => by
    unfold famAt
    by_cases hD : s ∈ D
    · rw [if_pos (by simpa using hD)]
      obtain ⟨j, hj, hd⟩ := (mem_DZ c).1 hD
      obtain ⟨o2, ho2, e, he, hb, hon⟩ := Region.waitsFor_spec (c.waits i o' hi ho s hs hsx j hj hd)
      obtain rfl : o2 = o' := Option.some.inj (ho2.symm.trans ho)
      have := hall e he hb
      rw [hon] at this
      exact inv.base.done j s hj hd this
    · rw [if_neg (by simpa using hD)]
      have := inv.base.rest s (fun j hj hd => absurd ((mem_DZ c).2 ⟨j, hj, hd⟩) hD)
      simp only [Array.getD_eq_getD_getElem?, this]
  have eL : (fun j => (listed.setIfInBounds i true).getD j false) = lst1 (fun j => listed.getD j false) i := by
    funext j
    unfold lst1
    by_cases h : j = i
    · subst h; simp [hlt]
    · rw [if_neg h, getD_set_ne false (Ne.symm h)]
  have eF : ∀ v, (fun t => (a.put o'.dst v).tmps.getD t undef) = updT (fun t => a.tmps.getD t undef) o'.dst v := fun v => by
    funext t
    unfold updT
    cases hd : o'.dst with
    | none => simp [Act.put]
    | some d =>
      have hs : d < a.tmps.size := by rw [inv.base.size]; exact c.within d ((mem_DZ c).2 ⟨i, hi, by rw [hdst]; exact hd⟩)
      by_cases h : d = t
      · subst h; simp [Act.put, hs]
      · rw [if_neg (fun e => h (by injection e))]; simp [Act.put, Array.getElem?_setIfInBounds_ne h]
  have fin : ∀ v w', (∀ d, o'.dst = some d → famOf Fs d v w') → X (lst1 (fun j => listed.getD j false) i) (updT (fun t => a.tmps.getD t undef) o'.dst v) w' → ZInv ops D Fs X a0 w0 (listed.setIfInBounds i true) (a.put o'.dst v) w' := fun v w' hv hx => by
    have h1 := (ZInv.put Tt.pre c inv.base ho hi hr (w' := w') trivial hv).1
    refine ⟨h1, ?_⟩
    rw [eL, eF]
    exact hx
  unfold wpOp
  simp only [ho]
  split at hok
  · have hcl : ∀ j k, Region.waitsFor .any ops j k = true → (fun j => listed.getD j false) j = true → (fun j => listed.getD j false) k = true := fun j k hw hj => by
      obtain ⟨oj, hoj, e, he, hb, hon⟩ := Region.waitsFor_spec hw
      have := inv.base.head.closed j oj hoj hj e he hb
      rw [hon] at this
      exact this
    have hwt : ∀ k, Region.waitsFor .any ops i k = true → (fun j => listed.getD j false) k = true := fun k hw => by
      obtain ⟨oj, hoj, e, he, hb, hon⟩ := Region.waitsFor_spec hw
      obtain rfl : oj = o' := Option.some.inj (hoj.symm.trans ho)
      have := hall e he hb
      rw [hon] at this
      exact this
    have ok := hok (fun j => listed.getD j false) (fun t => a.tmps.getD t undef) w (getD_both hun) hcl hwt inv.say (fun s hs hx => facts s hs (by rw [hx, Bool.and_false]))
    rw [famWants_eq, rho_eval] at ok
    split
    · rename_i hw
      refine .inl ?_
      have := ok.1 hw
      unfold Oper.wp
      generalize (execOp a.eval o').run P w = r at *
      cases r with
      | ok nx w' =>
        cases nx <;> simp only [famUpon] at this <;> simp only [Oper.upon]
        case value v => exact fin v w' this.1 this.2
        case skip => exact fin undef w' this.1 this.2
        case enter f args =>
          refine this.mono fun e w'' he => ?_
          obtain ⟨v, rfl, h1, h2⟩ := he
          exact fin v w'' h1 h2
      | halt x w' => simp only [famUpon] at this
    · rename_i hw
      have := ok.2 (by simpa using hw)
      exact fin undef w this.1 this.2
  · have hns : sp.contains i = false := by simpa using ‹¬ sp.contains i = true›
    have pl : ∀ v w', Grows w w' → X (lst1 (fun j => listed.getD j false) i) (updT (fun t => a.tmps.getD t undef) o'.dst v) w' := fun v w' hg => by
      refine hX _ _ _ _ w w' (fun j hj => ?_) (fun s hs => ?_) hg inv.say
      · unfold lst1
        rw [if_neg]
        rintro rfl
        have : sp.contains j = true := by simpa using hj
        rw [this] at hns; cases hns
      · unfold updT
        rw [if_neg]
        intro e
        exact hsp i hi hns s (by rw [hdst]; exact e) hs
    have ok := hok (fun t => a.tmps.getD t undef) w (fun s hs => facts s hs (by rw [hns, Bool.false_and]))
    rw [famWants_eq, rho_eval] at ok
    split
    · rename_i hw
      refine .inl ?_
      have := ok.1 hw
      unfold Oper.wp
      generalize (execOp a.eval o').run P w = r at *
      cases r with
      | ok nx w' =>
        cases nx <;> simp only [famUpon] at this <;> simp only [Oper.upon]
        case value v => exact fin v w' this.2 (pl v w' this.1)
        case skip => exact fin undef w' this.2 (pl undef w' this.1)
        case enter f args =>
          refine this.mono fun e w'' he => ?_
          obtain ⟨v, rfl, h1, h2⟩ := he
          exact fin v w'' h2 (pl v w'' h1)
      | halt x w' => simp only [famUpon] at this
    · rename_i hw
      have := ok.2 (by simpa using hw)
      exact fin undef w this (pl undef w (Grows.refl w))
end

theorem famZ_any {P : Program} {ops : Array Oper} {D sp spd : List Nat} {Fs : List (Nat × StR Tt)} {X : Say} {a0 : Act} {w0 : World} {Q : Exit → Act → World → Prop}
    (hX : ∀ (L L' : Nat → Bool) (f f' : Nat → Value) (w w' : World), (∀ j ∈ sp, L' j = L j) → (∀ s ∈ spd, f' s = f s) → Grows w w' → X L f w → X L' f' w') (c : FamCZ ops a0.tmps.size D sp spd) (hsp : ∀ i, i < ops.size → sp.contains i = false → ∀ d, famDst ops i = some d → d ∉ spd)
    (hok : famAllZ P ops D Fs a0 X spd sp 0 ops.toList)
    (hend : ∀ (L : Nat → Bool) (u : Nat → Value) (w' : World), (∀ j, j < ops.size → L j = true) → X L u w' → (∀ s ∈ D, famOf Fs s (u s) w') → wpList P ops Q [] (fill u D a0) w') :
    ∀ (k : Nat) (listed : Array Bool) (a : Act) (w : World), unl listed ops.size = k → ZInv ops D Fs X a0 w0 listed a w → wpAny P .any ops Q k listed a w := by
  intro k
  induction k with
  | zero =>
    intro listed a w hk inv
    have hl := unl_zero hk
    have e : listed = Array.replicate ops.size true ++ Array.replicate (ops.size - ops.size) false := by
      refine Array.ext_getElem? fun i => ?_
      have hs := inv.base.head.size
      rcases Nat.lt_or_ge i ops.size with h | h
      · have := hl i h
        have h2 : i < listed.size := by omega
        simp [h2] at this
        simp [h2, this, h]
      · rw [Array.getElem?_eq_none (by omega), Array.getElem?_eq_none (by simpa using h)]
    have ha : a = fill (fun s => a.tmps.getD s undef) D a0 := by
      refine act_ext (by rw [fill_defers, inv.base.defers]) fun s => ?_
      rw [fill_get]
      by_cases hD : s ∈ D
      · have := c.within s hD
        rw [if_pos ⟨hD, this⟩]
        have h2 : s < a.tmps.size := by rw [inv.base.size]; exact this
        simp [h2]
      · rw [if_neg (fun h => hD h.1)]
        exact inv.base.rest s fun i hi hd => absurd ((mem_DZ c).2 ⟨i, hi, hd⟩) hD
    have H := hend (fun j => listed.getD j false) (fun s => a.tmps.getD s undef) w hl inv.say (fun s hs => by
      obtain ⟨i, hi, hd⟩ := (mem_DZ c).1 hs
      exact inv.base.done i s hi hd (hl i hi))
    rw [← ha] at H
    exact wpAny_of_seq (md := .any) (Q' := Q) (ops := ops) (P := P) [] ops.size listed a w (fun j => by simp) (by rw [e]; have := c.seq; rwa [Nat.sub_self] at this ⊢) H
  | succ k ih =>
    intro listed a w hk inv
    obtain ⟨i, hi, hf, hall⟩ := unl_least (listed := listed) (n := ops.size) (by omega)
    have hs := inv.base.head.size
    have hoi : ops[i]? = some ops[i] := by simp [hi]
    have hri : i ∈ Region.ready .any ops listed := mem_ready.2 ⟨getD_in (by omega) hf, ops[i], hoi, fun e he hb => hall _ (c.back i _ hi hoi e he hb)⟩
    refine ⟨fun h => (by rw [h] at hri; cases hri), fun j hj => ?_⟩
    obtain ⟨hun, o, ho, _⟩ := mem_ready.1 hj
    have hjn : j < ops.size := (Array.getElem?_eq_some_iff.1 ho).1
    have hjs : j < listed.size := by rw [hs]; exact hjn
    have hob := famAllZ_at hok j o (by simpa using ho)
    rw [Nat.zero_add] at hob
    refine wpOp_mono (fun a' w' inv' => ih _ a' w' ?_ inv') (inv.step hX c hsp ho hjn hj hob)
    have := unl_set hjs (getD_both hun) (n := ops.size)
    rw [if_pos hjn] at this
    omega

/-- THE LAW: as wp_fam, over the whole region; X is said of the world throughout; sp: the operations that turn it; spd: the temporaries that it speaks of. -/
theorem wp_famZ {P : Program} {id size : Nat} {l : List Oper} {D : List Nat} {a : Act} {w : World} {Q : Exit → Act → World → Prop} (sp spd : List Nat) (Fs : List (Nat × StR Tt)) (X : Say)
    (hX : ∀ (L L' : Nat → Bool) (f f' : Nat → Value) (w w' : World), (∀ j ∈ sp, L' j = L j) → (∀ s ∈ spd, f' s = f s) → Grows w w' → X L f w → X L' f' w')
    (hm : P.follows .mixedOrders = true) (hs : a.tmps.size = size) (hB : famZB l.toArray size D sp spd = true)
    (h0 : X (fun _ => false) (fun t => a.tmps.getD t undef) w)
    (hok : famAllZ P l.toArray D Fs a X spd sp 0 l)
    (hend : ∀ (L : Nat → Bool) (u : Nat → Value) (w' : World), (∀ j, j < l.length → L j = true) → X L u w' → (∀ s ∈ D, famOf Fs s (u s) w') → wpList P l.toArray Q [] (fill u D a) w') : (Code.region id l.toArray true).wp P Q a w := by
  subst hs
  unfold famZB at hB
  rw [Bool.and_eq_true] at hB
  have hB1 := hB.1
  replace hB := hB.2
  have c := famZ0_spec hB1
  simp only [List.all_eq_true, List.mem_range] at hB
  have hsp : ∀ i, i < l.toArray.size → sp.contains i = false → ∀ d, famDst l.toArray i = some d → d ∉ spd := fun i hi hs d hd => by
    have := hB i hi
    rw [hs, hd] at this
    simpa using this
  refine wp_region_any hm ?_
  have inv0 : ZInv l.toArray D Fs X a w (Array.replicate l.toArray.size false) a { w with drawn := w.drawn + 1 } :=
    ⟨⟨⟨by simp, fun j oj _ hl => (by rw [getD_replicate_false] at hl; cases hl), fun t _ ht => getD_in (by simpa using ht) (getD_replicate_false _ _)⟩,
      trivial, rfl, rfl, fun i d _ _ hl => (by rw [getD_replicate_false] at hl; cases hl), fun s _ => rfl⟩, hX _ _ _ _ w _ (fun j _ => getD_replicate_false _ _) (fun _ _ => rfl) (Grows.drew w 1) h0⟩
  exact famZ_any (Q := Q) hX c hsp hok (fun L u w' hL => hend L u w' (by simpa using hL)) _ _ a _ (unl_start _ _) inv0
end Go.Proofs.Ytdgmbopdommnhaa
