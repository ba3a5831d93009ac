/- The law of Fam.lean for a region that makes blocks and fills each of them once by a store, whichever order it draws: reads of older blocks may come up ahead of, between and behind the stores. -/
import Derived.Test.YtegppdobpihbnaaFamF
namespace Go.Proofs.Ytegppdobpihbnaa
set_option linter.unusedVariables false
set_option linter.unusedSimpArgs false
open Go.RowKit

/-- A block that operation al makes (its address in temporary d) and operation st fills. -/
structure Made where
  st : Nat
  al : Nat
  d : Nat
  t : TypeId
  ini : Array Value
  fin : Array Value
def Made.key (m : Made) : Nat × Nat × Nat := (m.st, m.al, m.d)

/-- The conditions, as a Bool. -/
def famXB (ops : Array Oper) (size : Nat) (D : List Nat) (Ks : List (Nat × Nat × Nat)) : Bool :=
  decide ((List.range ops.size).filterMap (famDst ops) = D) && D.all (fun d => decide (d < size)) &&
  (List.range ops.size).all (fun i => (List.range ops.size).all fun j => decide (i = j) || famDst ops i == none || decide (famDst ops i ≠ famDst ops j)) &&
  (List.range ops.size).all (fun i => match ops[i]? with
    | some o => (o.looksAt ops).all (fun s => (List.range ops.size).all fun j => !(famDst ops j == some s) || Region.waitsFor .any ops i j) && o.after.all (fun e => !Region.binds .any e || decide (e.on < i))
    | none => false) &&
  Ks.all (fun k => decide (k.1 < ops.size) && decide (k.2.1 < ops.size) && decide (famDst ops k.2.1 = some k.2.2) && decide (famDst ops k.1 = none) && Region.waitsFor .any ops k.1 k.2.1 && Ks.all fun k' => decide (k.2.1 = k'.2.1) || decide (k.1 ≠ k'.1)) &&
  decide ((Ks.map (·.2.1)).Nodup) &&
  Region.seqB .any ops (ops.size - ops.size) ops.size (Array.replicate ops.size true ++ Array.replicate (ops.size - ops.size) false)
structure FamCX (ops : Array Oper) (size : Nat) (D : List Nat) (Ks : List (Nat × Nat × Nat)) : Prop where
  lists : (List.range ops.size).filterMap (famDst ops) = D
  within : ∀ d ∈ D, d < size
  apart : ∀ i j, i < ops.size → j < ops.size → i ≠ j → famDst ops i = none ∨ famDst ops i ≠ famDst ops j
  waits : ∀ i o, i < ops.size → ops[i]? = some o → ∀ s ∈ o.looksAt ops, ∀ j, j < ops.size → famDst ops j = some s → Region.waitsFor .any ops i j = true
  back : ∀ i o, i < ops.size → ops[i]? = some o → ∀ e ∈ o.after, Region.binds .any e = true → e.on < i
  made : ∀ k ∈ Ks, k.1 < ops.size ∧ k.2.1 < ops.size ∧ famDst ops k.2.1 = some k.2.2 ∧ famDst ops k.1 = none ∧ Region.waitsFor .any ops k.1 k.2.1 = true ∧ ∀ k' ∈ Ks, k.2.1 = k'.2.1 ∨ k.1 ≠ k'.1
  uniq : (Ks.map (·.2.1)).Nodup
  seq : Region.seqB .any ops (ops.size - ops.size) ops.size (Array.replicate ops.size true ++ Array.replicate (ops.size - ops.size) false) = true
theorem famXB_spec {ops : Array Oper} {size : Nat} {D : List Nat} {Ks : List (Nat × Nat × Nat)} (h : famXB ops size D Ks = true) : FamCX ops size D Ks := by
  unfold famXB at h
  simp only [Bool.and_eq_true, Bool.or_eq_true, decide_eq_true_eq, List.all_eq_true, List.mem_range] at h
  obtain ⟨⟨⟨⟨⟨⟨h3, h4⟩, h5⟩, h6⟩, h7⟩, h8⟩, h10⟩ := h
  refine ⟨h3, h4, fun i j hi hj hij => ?_, fun i o hi ho s hs j hj hd => ?_, fun i o hi ho e he hb => ?_, fun k hk => ?_, h8, h10⟩
  · rcases h5 i hi j hj with (h | h) | h
    · exact absurd h hij
    · exact .inl (by simpa using h)
    · exact .inr h
  · have := h6 i hi
    rw [ho] at this
    simp only [Bool.and_eq_true, List.all_eq_true, List.mem_range, Bool.or_eq_true] at this
    rcases this.1 s hs j hj with h | h
    · simp [hd] at h
    · exact h
  · have := h6 i hi
    rw [ho] at this
    simp only [Bool.and_eq_true] at this
    have := Array.all_eq_true'.1 this.2 e he
    simpa [hb] using this
  · obtain ⟨⟨⟨⟨⟨a1, a2⟩, a3⟩, a4⟩, a5⟩, a6⟩ := h7 k hk
    exact ⟨a1, a2, a3, a4, a5, a6⟩
theorem mem_DX {ops : Array Oper} {size : Nat} {D : List Nat} {Ks : List (Nat × Nat × Nat)} (c : FamCX ops size D Ks) {d : Nat} : d ∈ D ↔ ∃ i, i < ops.size ∧ famDst ops i = some d := by
  rw [← c.lists, List.mem_filterMap]
  simp only [List.mem_range]

theorem made_uniq : ∀ {Ms : List Made}, ((Ms.map Made.key).map (·.2.1)).Nodup → ∀ {m m' : Made}, m ∈ Ms → m' ∈ Ms → m.al = m'.al → m = m'
  | [], _, m, m', h, _, _ => by simp at h
  | x :: l, hn, m, m', h, h', e => by
    simp only [List.map_cons, List.nodup_cons] at hn
    have no : ∀ q ∈ l, q.al ≠ x.al := fun q hq e => hn.1 (by simp only [List.mem_map]; exact ⟨q.key, ⟨q, hq, rfl⟩, e⟩)
    rcases List.mem_cons.1 h with rfl | h1
    · rcases List.mem_cons.1 h' with rfl | h2
      · rfl
      · exact absurd e.symm (no m' h2)
    · rcases List.mem_cons.1 h' with rfl | h2
      · exact absurd e (no m h1)
      · exact made_uniq hn.2 h1 h2 e

/-- What may become of the world. -/
structure RelX (R : World → World → Prop) (w0 : World) (Ms : List Made) : Prop where
  pre : Pre R
  grows : ∀ {w w'}, R w0 w → Grows w w' → R w w'
  fills : ∀ {w w' g m}, m ∈ Ms → R w0 w → w0.heap.size ≤ g → Blo w g m.t m.ini → w.grownBy w' (some g) → R w w'
  below : ∀ {w}, R w0 w → Below w0.heap.size w0 w

section
variable {R : World → World → Prop} (P : Program) (ops : Array Oper) (D : List Nat) (Fs : List (Nat × StR R)) (a0 : Act) (w0 : World)
def FamXOk (o : Oper) : Prop :=
  ∀ (f : Nat → Value) (w : World), R w0 w → (∀ s ∈ o.looksAt ops, famAt D Fs a0 s (f s) w) →
    (famWants ops o f = true → famUpon P (fun v w' => Grows w w' ∧ ∀ d, o.dst = some d → famOf Fs d v w') ((execOp (rho f) o).run P w)) ∧
    (famWants ops o f = false → ∀ d, o.dst = some d → famOf Fs d undef w)
def FamXAl (m : Made) (o : Oper) : Prop :=
  ∀ (f : Nat → Value) (w : World), R w0 w → famWants ops o f = true ∧ (execOp (rho f) o).run P w = .ok (.value (.pointer (some ⟨w.heap.size, 0, none⟩))) (w.alloc (.cells m.ini m.t)) ∧ ∀ d, o.dst = some d → ∀ v w', famOf Fs d v w'
def FamXSt (m : Made) (o : Oper) : Prop :=
  ∀ (f : Nat → Value) (w : World) (g : Nat), R w0 w → (∀ s ∈ o.looksAt ops, famAt D Fs a0 s (f s) w) → f m.d = .pointer (some ⟨g, 0, none⟩) → Blo w g m.t m.ini → famWants ops o f = true ∧ famUpon P (fun _ w' => w.grownBy w' (some g) ∧ Blo w' g m.t m.fin) ((execOp (rho f) o).run P w)
def obX : List Made → Nat → Oper → Prop
  | [], _, o => FamXOk P ops D Fs a0 w0 o
  | m :: l, k, o => if m.st = k then FamXSt P ops D Fs a0 w0 m o else if m.al = k then FamXAl P ops Fs w0 m o else obX l k o
def famAllX (Ms : List Made) : Nat → List Oper → Prop
  | _, [] => True
  | k, o :: l => obX P ops D Fs a0 w0 Ms k o ∧ famAllX Ms (k + 1) l
end
theorem famAllX_at {R : World → World → Prop} {P : Program} {ops : Array Oper} {D : List Nat} {Fs : List (Nat × StR R)} {a0 : Act} {w0 : World} {Ms : List Made} : ∀ {l : List Oper} {k : Nat}, famAllX P ops D Fs a0 w0 Ms k l → ∀ (i : Nat) (o : Oper), l[i]? = some o → obX P ops D Fs a0 w0 Ms (k + i) o
  | [], _, _, i, o, h => by simp at h
  | x :: l, k, h, 0, o, e => by simp at e; subst e; exact h.1
  | x :: l, k, h, i + 1, o, e => by have := famAllX_at h.2 i o (by simpa using e); rwa [show k + 1 + i = k + (i + 1) by omega] at this
/-- Which of the three. -/
theorem obX_cases {R : World → World → Prop} {P : Program} {ops : Array Oper} {D : List Nat} {Fs : List (Nat × StR R)} {a0 : Act} {w0 : World} : ∀ {Ms : List Made} {k : Nat} {o : Oper}, obX P ops D Fs a0 w0 Ms k o →
    (∃ m ∈ Ms, m.st = k ∧ FamXSt P ops D Fs a0 w0 m o) ∨ (∃ m ∈ Ms, m.al = k ∧ FamXAl P ops Fs w0 m o) ∨ ((∀ m ∈ Ms, m.st ≠ k ∧ m.al ≠ k) ∧ FamXOk P ops D Fs a0 w0 o)
  | [], k, o, h => .inr (.inr ⟨by simp, h⟩)
  | m :: l, k, o, h => by
    unfold obX at h
    split at h
    · exact .inl ⟨m, by simp, by assumption, h⟩
    · split at h
      · exact .inr (.inl ⟨m, by simp, by assumption, h⟩)
      · rcases obX_cases h with ⟨m', h1, h2⟩ | ⟨m', h1, h2⟩ | ⟨h1, h2⟩
        · exact .inl ⟨m', by simp [h1], h2⟩
        · exact .inr (.inl ⟨m', by simp [h1], h2⟩)
        · refine .inr (.inr ⟨fun m' hm => ?_, h2⟩)
          rcases List.mem_cons.1 hm with rfl | hm
          · exact ⟨by assumption, by assumption⟩
          · exact h1 m' hm

/-- How things stand. -/
structure XInv {R : World → World → Prop} (ops : Array Oper) (D : List Nat) (Fs : List (Nat × StR R)) (Ms : List Made) (a0 : Act) (w0 : World) (listed : Array Bool) (a : Act) (w : World) : Prop where
  base : FamInv ops ops.size D Fs a0 w0 listed a w
  made : ∀ m ∈ Ms, listed.getD m.al false = true → ∃ g, a.tmps.getD m.d undef = .pointer (some ⟨g, 0, none⟩) ∧ w0.heap.size ≤ g ∧ Blo w g m.t (if listed.getD m.st false then m.fin else m.ini)
  dist : ∀ m ∈ Ms, ∀ m' ∈ Ms, m.al ≠ m'.al → listed.getD m.al false = true → listed.getD m'.al false = true → a.tmps.getD m.d undef ≠ a.tmps.getD m'.d undef

section
variable {R : World → World → Prop} {P : Program} {ops : Array Oper} {D : List Nat} {Fs : List (Nat × StR R)} {Ms : List Made} {a0 : Act} {w0 : World} {listed : Array Bool} {a : Act} {w : World} {Q : Exit → Act → World → Prop}
theorem XInv.put (hR : Pre R) (c : FamCX ops a0.tmps.size D (Ms.map Made.key)) (inv : FamInv ops ops.size D Fs a0 w0 listed a w) {i : Nat} {o : Oper} (ho : ops[i]? = some o) (hi : i < ops.size) (hr : i ∈ Region.ready .any ops listed) {v : Value} {w' : World} (hg : R w w') (hv : ∀ d, o.dst = some d → famOf Fs d v w') :
    FamInv ops ops.size D Fs a0 w0 (listed.setIfInBounds i true) (a.put o.dst v) w' ∧ (∀ d, o.dst = some d → (a.put o.dst v).tmps.getD d undef = v) ∧ (∀ j d, j < ops.size → j ≠ i → famDst ops j = some d → (a.put o.dst v).tmps.getD d undef = a.tmps.getD d undef) := by
  have hlt : i < listed.size := by rw [inv.head.size]; exact hi
  have hdst : famDst ops i = o.dst := by unfold famDst; rw [ho]; rfl
  have here : ∀ d, o.dst = some d → (a.put o.dst v).tmps.getD d undef = v := fun d hd => by
    have hD : d ∈ D := (mem_DX c).2 ⟨i, hi, by rw [hdst]; exact hd⟩
    have hs := c.within d hD
    rw [hd]; simp [Act.put, inv.size, hs]
  have there : ∀ j d, j < ops.size → j ≠ i → famDst ops j = some d → (a.put o.dst v).tmps.getD d undef = a.tmps.getD d undef := fun j d hj hij hd => by
    cases hd' : o.dst with
    | none => rfl
    | some d' =>
      have hne : d' ≠ d := fun e => by
        subst e
        rcases c.apart j i hj hi hij with h | h
        · rw [hd] at h; cases h
        · exact h (by rw [hd, hdst, hd'])
      simp [Act.put, Array.getElem?_setIfInBounds_ne hne]
  refine ⟨⟨inv.head.set hr hi, hR.trans inv.grows hg, ?_, ?_, fun j d hj hd hl => ?_, fun s hs => ?_⟩, here, there⟩
  · rw [← inv.defers]; cases o.dst <;> rfl
  · rw [← inv.size]; cases o.dst <;> simp [Act.put]
  · by_cases hij : j = i
    · subst hij
      rw [hdst] at hd
      rw [here d hd]
      exact hv d hd
    · rw [getD_set_ne false (Ne.symm hij)] at hl
      rw [there j d hj hij hd]
      exact famOf_up Fs d hg (inv.done j d hj hd hl)
  · have hne : o.dst ≠ some s := fun e => by
      have := hs i hi (by rw [hdst]; exact e)
      simp [hlt] at this
    have h1 := inv.rest s (fun j hj hd => by
      have := hs j hj hd
      by_cases hij : i = j
      · subst hij; exact absurd (hdst ▸ hd) hne
      · rwa [getD_set_ne false hij] at this)
    rw [← h1]
    cases hd' : o.dst with
    | none => rfl
    | some d' => simp [Act.put, Array.getElem?_setIfInBounds_ne (fun e : d' = s => hne (by rw [hd', e]))]
theorem XInv.step (hX : RelX R w0 Ms) (c : FamCX ops a0.tmps.size D (Ms.map Made.key)) (inv : XInv ops D Fs Ms a0 w0 listed a w) {i : Nat} {o : Oper} (ho : ops[i]? = some o) (hi : i < ops.size) (hr : i ∈ Region.ready .any ops listed) (hok : obX P ops D Fs a0 w0 Ms i o) :
    wpOp P ops Q i (fun a' w' => XInv ops D Fs Ms a0 w0 (listed.setIfInBounds i true) a' w') a w := by
  obtain ⟨hun, o', ho', hall⟩ := mem_ready.1 hr
  obtain rfl : o' = o := Option.some.inj (ho'.symm.trans ho)
  have hlt : i < listed.size := by rw [inv.base.head.size]; exact hi
  have hdst : famDst ops i = o'.dst := by unfold famDst; rw [ho]; rfl
  have hfi : listed.getD i false = false := getD_both hun
  have facts : ∀ s ∈ o'.looksAt ops, famAt D Fs a0 s ((fun t => a.tmps.getD t undef) s) w := fun s hs => by
    unfold famAt
    by_cases hD : s ∈ D
    · rw [if_pos (by simpa using hD)]
      obtain ⟨j, hj, hd⟩ := (mem_DX c).1 hD
      obtain ⟨o2, ho2, e, he, hb, hon⟩ := Region.waitsFor_spec (c.waits i o' hi ho s hs j hj hd)
      obtain rfl : o2 = o' := Option.some.inj (ho2.symm.trans ho)
      have := hall e he hb
      rw [hon] at this
      exact inv.base.done j s hj hd this
    · rw [if_neg (by simpa using hD)]
      have := inv.base.rest s (fun j hj hd => absurd ((mem_DX c).2 ⟨j, hj, hd⟩) hD)
      simp only [Array.getD_eq_getD_getElem?, this]
  have key : ∀ m ∈ Ms, m.st < ops.size ∧ m.al < ops.size ∧ famDst ops m.al = some m.d ∧ famDst ops m.st = none ∧ Region.waitsFor .any ops m.st m.al = true ∧ ∀ m' ∈ Ms, m.al = m'.al ∨ m.st ≠ m'.st := fun m hm => by
    obtain ⟨h1, h2, h3, h4, h5, h6⟩ := c.made m.key (List.mem_map.2 ⟨m, hm, rfl⟩)
    exact ⟨h1, h2, h3, h4, h5, fun m' hm' => h6 m'.key (List.mem_map.2 ⟨m', hm', rfl⟩)⟩
  have hb0 := hX.below inv.base.grows
  -- an operation of no block
  have plain : (∀ m ∈ Ms, m.st ≠ i ∧ m.al ≠ i) → ∀ v w', Grows w w' → (∀ d, o'.dst = some d → famOf Fs d v w') → XInv ops D Fs Ms a0 w0 (listed.setIfInBounds i true) (a.put o'.dst v) w' := fun hno v w' hg hv => by
    obtain ⟨h1, h2, h3⟩ := XInv.put hX.pre c inv.base ho hi hr (hX.grows inv.base.grows hg) hv
    refine ⟨h1, fun m hm hl => ?_, fun m hm m' hm' hne hl hl' => ?_⟩
    · obtain ⟨k1, k2, k3, k4, k5, k6⟩ := key m hm
      obtain ⟨n1, n2⟩ := hno m hm
      rw [getD_set_ne false (Ne.symm n2)] at hl
      obtain ⟨g, e1, e2, e3⟩ := inv.made m hm hl
      rw [getD_set_ne false (Ne.symm n1), h3 m.al m.d k2 n2 k3]
      exact ⟨g, e1, e2, e3.new hg⟩
    · obtain ⟨k1, k2, k3, _⟩ := key m hm
      obtain ⟨k1', k2', k3', _⟩ := key m' hm'
      rw [getD_set_ne false (Ne.symm (hno m hm).2)] at hl
      rw [getD_set_ne false (Ne.symm (hno m' hm').2)] at hl'
      rw [h3 m.al m.d k2 (hno m hm).2 k3, h3 m'.al m'.d k2' (hno m' hm').2 k3']
      exact inv.dist m hm m' hm' hne hl hl'
  rcases obX_cases hok with ⟨m, hm, hmi, hst⟩ | ⟨m, hm, hmi, hal⟩ | ⟨hno, hpl⟩
  · -- a block is filled
    subst hmi
    obtain ⟨k1, k2, k3, k4, k5, k6⟩ := key m hm
    obtain ⟨o2, ho2, e, he, hb, hon⟩ := Region.waitsFor_spec k5
    obtain rfl : o2 = o' := Option.some.inj (ho2.symm.trans ho)
    have hlal : listed.getD m.al false = true := by have := hall e he hb; rw [hon] at this; exact this
    obtain ⟨g, e1, e2, e3⟩ := inv.made m hm hlal
    rw [hfi] at e3
    obtain ⟨hw, hup⟩ := hst (fun t => a.tmps.getD t undef) w g inv.base.grows facts e1 e3
    rw [famWants_eq] at hw
    rw [rho_eval] at hup
    have hnd : o2.dst = none := by rw [← hdst]; exact k4
    have after : ∀ v w', w.grownBy w' (some g) → Blo w' g m.t m.fin → XInv ops D Fs Ms a0 w0 (listed.setIfInBounds m.st true) (a.put o2.dst v) w' := fun v w' hg hB => by
      have hRr := hX.fills hm inv.base.grows e2 e3 hg
      obtain ⟨h1, h2, h3⟩ := XInv.put hX.pre c inv.base ho hi hr hRr (v := v) (fun d hd => by rw [hnd] at hd; cases hd)
      have hsame : ∀ d, (a.put o2.dst v).tmps.getD d undef = a.tmps.getD d undef := fun d => by rw [hnd]; rfl
      refine ⟨h1, fun m' hm' hl => ?_, fun m' hm' m'' hm'' hne hl hl' => ?_⟩
      · obtain ⟨k1', k2', k3', k4', k5', k6'⟩ := key m' hm'
        have hne1 : m.st ≠ m'.al := fun e => by rw [show famDst ops m'.al = none from e ▸ k4] at k3'; cases k3'
        rw [getD_set_ne false hne1] at hl
        rw [hsame]
        by_cases hal : m'.al = m.al
        · obtain rfl := made_uniq c.uniq hm' hm hal
          rw [e1]
          refine ⟨g, rfl, e2, ?_⟩
          rw [if_pos (by simp [hlt])]
          exact hB
        · obtain ⟨g', f1, f2, f3⟩ := inv.made m' hm' hl
          have hgg : g' ≠ g := fun e => inv.dist m' hm' m hm hal hl hlal (by rw [f1, e1, e])
          have hst' : m.st ≠ m'.st := by
            rcases k6 m' hm' with h | h
            · exact absurd h.symm hal
            · exact h
          rw [getD_set_ne false hst']
          exact ⟨g', f1, f2, f3.grown hg (fun e => hgg (by injection e))⟩
      · obtain ⟨_, _, k3', _⟩ := key m' hm'
        obtain ⟨_, _, k3'', _⟩ := key m'' hm''
        have hne1 : m.st ≠ m'.al := fun e => by rw [show famDst ops m'.al = none from e ▸ k4] at k3'; cases k3'
        have hne2 : m.st ≠ m''.al := fun e => by rw [show famDst ops m''.al = none from e ▸ k4] at k3''; cases k3''
        rw [getD_set_ne false hne1] at hl
        rw [getD_set_ne false hne2] at hl'
        rw [hsame, hsame]
        exact inv.dist m' hm' m'' hm'' hne hl hl'
    unfold wpOp
    simp only [ho]
    rw [if_pos hw]
    refine .inl ?_
    unfold Oper.wp
    generalize (execOp a.eval o2).run P w = r at *
    cases r with
    | ok nx w' =>
      cases nx <;> simp only [famUpon] at hup <;> simp only [Oper.upon]
      case value v => exact after v w' hup.1 hup.2
      case skip => exact after undef w' hup.1 hup.2
      case enter f args =>
        refine hup.mono fun e w'' he => ?_
        obtain ⟨v, rfl, h1, h2⟩ := he
        exact after v w'' h1 h2
    | halt x w' => simp only [famUpon] at hup
  · -- a block is made
    subst hmi
    obtain ⟨k1, k2, k3, k4, k5, k6⟩ := key m hm
    obtain ⟨hw, hrun, hf⟩ := hal (fun t => a.tmps.getD t undef) w inv.base.grows
    rw [famWants_eq] at hw
    rw [rho_eval] at hrun
    have hg : Grows w (w.alloc (.cells m.ini m.t)) := Grows.alloc w _
    obtain ⟨h1, h2, h3⟩ := XInv.put hX.pre c inv.base ho hi hr (hX.grows inv.base.grows hg) (v := .pointer (some ⟨w.heap.size, 0, none⟩)) (fun d hd => hf d hd _ _)
    have hdm : o'.dst = some m.d := by rw [← hdst]; exact k3
    have hst0 : listed.getD m.st false = false := by
      cases e : listed.getD m.st false with
      | false => rfl
      | true =>
        obtain ⟨o2, ho2, ed, he, hb, hon⟩ := Region.waitsFor_spec k5
        have := inv.base.head.closed m.st o2 ho2 e ed he hb
        rw [hon] at this
        rw [show listed.getD m.al false = true from this] at hfi; cases hfi
    have other : ∀ m' ∈ Ms, m'.al ≠ m.al → (a.put o'.dst (.pointer (some ⟨w.heap.size, 0, none⟩))).tmps.getD m'.d undef = a.tmps.getD m'.d undef := fun m' hm' hne => by
      obtain ⟨_, k2', k3', _⟩ := key m' hm'
      exact h3 m'.al m'.d k2' hne k3'
    have X : XInv ops D Fs Ms a0 w0 (listed.setIfInBounds m.al true) (a.put o'.dst (.pointer (some ⟨w.heap.size, 0, none⟩))) (w.alloc (.cells m.ini m.t)) := by
      refine ⟨h1, fun m' hm' hl => ?_, fun m' hm' m'' hm'' hne hl hl' => ?_⟩
      · obtain ⟨k1', k2', k3', k4', k5', k6'⟩ := key m' hm'
        by_cases hal : m'.al = m.al
        · obtain rfl := made_uniq c.uniq hm' hm hal
          have hne1 : m'.al ≠ m'.st := fun e => by rw [show famDst ops m'.al = none from e ▸ k4] at k3; cases k3
          rw [h2 m'.d hdm, getD_set_ne false hne1, hst0]
          exact ⟨w.heap.size, rfl, hb0.size, Blo.made _ _ _⟩
        · rw [getD_set_ne false (Ne.symm hal)] at hl
          obtain ⟨g', f1, f2, f3⟩ := inv.made m' hm' hl
          have hne1 : m.al ≠ m'.st := fun e => by rw [show famDst ops m.al = none from e ▸ k4'] at k3; cases k3
          rw [other m' hm' hal, getD_set_ne false hne1]
          exact ⟨g', f1, f2, f3.alloc _⟩
      · have old : ∀ q ∈ Ms, q.al ≠ m.al → (listed.setIfInBounds m.al true).getD q.al false = true → ∃ g, a.tmps.getD q.d undef = .pointer (some ⟨g, 0, none⟩) ∧ g < w.heap.size := fun q hq hne' hlq => by
          rw [getD_set_ne false (Ne.symm hne')] at hlq
          obtain ⟨g', f1, f2, f3⟩ := inv.made q hq hlq
          exact ⟨g', f1, f3.lt⟩
        have new : ∀ q ∈ Ms, q.al = m.al → (a.put o'.dst (.pointer (some ⟨w.heap.size, 0, none⟩))).tmps.getD q.d undef = .pointer (some ⟨w.heap.size, 0, none⟩) := fun q hq e => by
          obtain ⟨_, _, k3', _⟩ := key q hq
          refine h2 q.d ?_
          rw [hdm, ← k3, ← k3']
          show famDst ops m.al = famDst ops q.al
          rw [e]
        by_cases e1 : m'.al = m.al
        · have e2 : m''.al ≠ m.al := fun e => hne (e1.trans e.symm)
          obtain ⟨g, f1, f2⟩ := old m'' hm'' e2 hl'
          rw [new m' hm' e1, other m'' hm'' e2, f1]
          intro e
          simp at e <;> omega
        · obtain ⟨g, f1, f2⟩ := old m' hm' e1 hl
          rw [other m' hm' e1]
          by_cases e2 : m''.al = m.al
          · rw [new m'' hm'' e2, f1]
            intro e
            simp at e <;> omega
          · rw [other m'' hm'' e2]
            rw [getD_set_ne false (Ne.symm e1)] at hl
            rw [getD_set_ne false (Ne.symm e2)] at hl'
            exact inv.dist m' hm' m'' hm'' hne hl hl'
    unfold wpOp
    simp only [ho]
    rw [if_pos hw]
    refine .inl ?_
    unfold Oper.wp
    rw [hrun]
    exact X
  · have ok := hpl (fun t => a.tmps.getD t undef) w inv.base.grows facts
    rw [famWants_eq, rho_eval] at ok
    unfold wpOp
    simp only [ho]
    split
    · rename_i hw
      refine .inl ?_
      have := ok.1 hw
      unfold Oper.wp
      generalize (execOp a.eval o').run P w = r at *
      cases r with
      | ok nx w' =>
        cases nx <;> simp only [famUpon] at this <;> simp only [Oper.upon]
        case value v => exact plain hno v w' this.1 this.2
        case skip => exact plain hno undef w' this.1 this.2
        case enter f args =>
          refine this.mono fun e w'' he => ?_
          obtain ⟨v, rfl, h1, h2⟩ := he
          exact plain hno v w'' h1 h2
      | halt x w' => simp only [famUpon] at this
    · rename_i hw
      exact plain hno undef w (Grows.refl w) (ok.2 (by simpa using hw))
end

theorem famX_any {R : World → World → Prop} {P : Program} {ops : Array Oper} {D : List Nat} {Fs : List (Nat × StR R)} {Ms : List Made} {a0 : Act} {w0 : World} {Q : Exit → Act → World → Prop} (hX : RelX R w0 Ms) (c : FamCX ops a0.tmps.size D (Ms.map Made.key))
    (hok : famAllX P ops D Fs a0 w0 Ms 0 ops.toList)
    (hend : ∀ (u : Nat → Value) (w' : World), R w0 w' → (∀ s ∈ D, famOf Fs s (u s) w') → (∀ m ∈ Ms, ∃ g, u m.d = .pointer (some ⟨g, 0, none⟩) ∧ w0.heap.size ≤ g ∧ Blo w' g m.t m.fin) → (∀ m ∈ Ms, ∀ m' ∈ Ms, m.al ≠ m'.al → u m.d ≠ u m'.d) → wpList P ops Q [] (fill u D a0) w') :
    ∀ (k : Nat) (listed : Array Bool) (a : Act) (w : World), unl listed ops.size = k → XInv ops D Fs Ms a0 w0 listed a w → wpAny P .any ops Q k listed a w := by
  intro k
  induction k with
  | zero =>
    intro listed a w hk inv
    have hl := unl_zero hk
    have e : listed = Array.replicate ops.size true ++ Array.replicate (ops.size - ops.size) false := by
      refine Array.ext_getElem? fun i => ?_
      have hs := inv.base.head.size
      rcases Nat.lt_or_ge i ops.size with h | h
      · have := hl i h
        have h2 : i < listed.size := by omega
        simp [h2] at this
        simp [h2, this, h]
      · rw [Array.getElem?_eq_none (by omega), Array.getElem?_eq_none (by simpa using h)]
    have ha : a = fill (fun s => a.tmps.getD s undef) D a0 := by
      refine act_ext (by rw [fill_defers, inv.base.defers]) fun s => ?_
      rw [fill_get]
      by_cases hD : s ∈ D
      · have := c.within s hD
        rw [if_pos ⟨hD, this⟩]
        have h2 : s < a.tmps.size := by rw [inv.base.size]; exact this
        simp [h2]
      · rw [if_neg (fun h => hD h.1)]
        exact inv.base.rest s fun i hi hd => absurd ((mem_DX c).2 ⟨i, hi, hd⟩) hD
    have key : ∀ m ∈ Ms, m.st < ops.size ∧ m.al < ops.size ∧ famDst ops m.al = some m.d ∧ famDst ops m.st = none ∧ Region.waitsFor .any ops m.st m.al = true ∧ ∀ m' ∈ Ms, m.al = m'.al ∨ m.st ≠ m'.st := fun m hm => by
      obtain ⟨h1, h2, h3, h4, h5, h6⟩ := c.made m.key (List.mem_map.2 ⟨m, hm, rfl⟩)
      exact ⟨h1, h2, h3, h4, h5, fun m' hm' => h6 m'.key (List.mem_map.2 ⟨m', hm', rfl⟩)⟩
    have H := hend (fun s => a.tmps.getD s undef) w inv.base.grows (fun s hs => by
      obtain ⟨i, hi, hd⟩ := (mem_DX c).1 hs
      exact inv.base.done i s hi hd (hl i hi)) (fun m hm => by
        obtain ⟨g, e1, e2, e3⟩ := inv.made m hm (hl _ (key m hm).2.1)
        rw [if_pos (hl _ (key m hm).1)] at e3
        exact ⟨g, e1, e2, e3⟩) (fun m hm m' hm' hne => inv.dist m hm m' hm' hne (hl _ (key m hm).2.1) (hl _ (key m' hm').2.1))
    rw [← ha] at H
    exact wpAny_of_seq (md := .any) (Q' := Q) (ops := ops) (P := P) [] ops.size listed a w (fun j => by simp) (by rw [e]; have := c.seq; rwa [Nat.sub_self] at this ⊢) H
  | succ k ih =>
    intro listed a w hk inv
    obtain ⟨i, hi, hf, hall⟩ := unl_least (listed := listed) (n := ops.size) (by omega)
    have hs := inv.base.head.size
    have hoi : ops[i]? = some ops[i] := by simp [hi]
    have hri : i ∈ Region.ready .any ops listed := mem_ready.2 ⟨getD_in (by omega) hf, ops[i], hoi, fun e he hb => hall _ (c.back i _ hi hoi e he hb)⟩
    refine ⟨fun h => (by rw [h] at hri; cases hri), fun j hj => ?_⟩
    obtain ⟨hun, o, ho, _⟩ := mem_ready.1 hj
    have hjn : j < ops.size := (Array.getElem?_eq_some_iff.1 ho).1
    have hjs : j < listed.size := by rw [hs]; exact hjn
    have hob := famAllX_at hok j o (by simpa using ho)
    rw [Nat.zero_add] at hob
    refine wpOp_mono (fun a' w' inv' => ih _ a' w' ?_ inv') (inv.step hX c ho hjn hj hob)
    have := unl_set hjs (getD_both hun) (n := ops.size)
    rw [if_pos hjn] at this
    omega

/-- THE LAW: as wp_fam, over the whole region; Ms: the blocks that it makes and fills. -/
theorem wp_famX {R : World → World → Prop} {P : Program} {id size : Nat} {l : List Oper} {D : List Nat} {a : Act} {w : World} {Q : Exit → Act → World → Prop} (Ms : List Made) (Fs : List (Nat × StR R)) (hX : RelX R w Ms) (hm : P.follows .mixedOrders = true) (hs : a.tmps.size = size) (hB : famXB l.toArray size D (Ms.map Made.key) = true)
    (hok : famAllX P l.toArray D Fs a w Ms 0 l)
    (hend : ∀ (u : Nat → Value) (w' : World), R w w' → (∀ s ∈ D, famOf Fs s (u s) w') → (∀ m ∈ Ms, ∃ g, u m.d = .pointer (some ⟨g, 0, none⟩) ∧ w.heap.size ≤ g ∧ Blo w' g m.t m.fin) → (∀ m ∈ Ms, ∀ m' ∈ Ms, m.al ≠ m'.al → u m.d ≠ u m'.d) → wpList P l.toArray Q [] (fill u D a) w') : (Code.region id l.toArray true).wp P Q a w := by
  subst hs
  have c := famXB_spec hB
  refine wp_region_any hm ?_
  have inv0 : XInv l.toArray D Fs Ms a w (Array.replicate l.toArray.size false) a { w with drawn := w.drawn + 1 } :=
    ⟨⟨⟨by simp, fun j oj _ hl => (by rw [getD_replicate_false] at hl; cases hl), fun t _ ht => getD_in (by simpa using ht) (getD_replicate_false _ _)⟩,
      hX.pre.drew w, rfl, rfl, fun i d _ _ hl => (by rw [getD_replicate_false] at hl; cases hl), fun s _ => rfl⟩, fun m _ hl => (by rw [getD_replicate_false] at hl; cases hl), fun m _ m' _ _ hl => (by rw [getD_replicate_false] at hl; cases hl)⟩
  exact famX_any (Q := Q) hX c hok hend _ _ a _ (unl_start _ _) inv0

/-- Blocks from B on may be written. -/
theorem Below.relX (w0 : World) (Ms : List Made) : RelX (Below w0.heap.size) w0 Ms :=
  ⟨⟨fun w => Below.refl _ _, fun h k => h.trans k, fun w => below_drewN (Below.refl _ w) 1⟩,
    fun h hg => Below.mono hg h.size, fun _ h hg _ hgr => below_gb' hgr h.size hg, fun h => h⟩
/-- Which obligation. -/
theorem obX_no {R : World → World → Prop} {P : Program} {ops : Array Oper} {D : List Nat} {Fs : List (Nat × StR R)} {a0 : Act} {w0 : World} {Ms : List Made} {k : Nat} {o : Oper} (h : (Ms.map Made.key).all (fun q => q.1 != k && q.2.1 != k) = true) (hf : FamXOk P ops D Fs a0 w0 o) : obX P ops D Fs a0 w0 Ms k o := by
  induction Ms with
  | nil => exact hf
  | cons m l ih =>
    simp only [List.map_cons, List.all_cons, Bool.and_eq_true] at h
    unfold obX
    rw [if_neg (by simpa [Made.key] using h.1.1), if_neg (by simpa [Made.key] using h.1.2)]
    exact ih h.2
theorem obX_st {R : World → World → Prop} {P : Program} {ops : Array Oper} {D : List Nat} {Fs : List (Nat × StR R)} {a0 : Act} {w0 : World} {k : Nat} {o : Oper} : ∀ {Ms : List Made} (j : Nat) {m : Made}, Ms[j]? = some m → m.st = k → ((Ms.take j).map Made.key).all (fun q => q.1 != k && q.2.1 != k) = true → FamXSt P ops D Fs a0 w0 m o → obX P ops D Fs a0 w0 Ms k o
  | [], j, m, h, _, _, _ => by simp at h
  | x :: l, 0, m, h, e, _, hf => by simp at h; subst h; unfold obX; rw [if_pos e]; exact hf
  | x :: l, j + 1, m, h, e, hn, hf => by
    simp only [List.take_succ_cons, List.map_cons, List.all_cons, Bool.and_eq_true] at hn
    unfold obX
    rw [if_neg (by simpa [Made.key] using hn.1.1), if_neg (by simpa [Made.key] using hn.1.2)]
    exact obX_st j (by simpa using h) e hn.2 hf
theorem obX_al {R : World → World → Prop} {P : Program} {ops : Array Oper} {D : List Nat} {Fs : List (Nat × StR R)} {a0 : Act} {w0 : World} {k : Nat} {o : Oper} : ∀ {Ms : List Made} (j : Nat) {m : Made}, Ms[j]? = some m → m.al = k → m.st ≠ k → ((Ms.take j).map Made.key).all (fun q => q.1 != k && q.2.1 != k) = true → FamXAl P ops Fs w0 m o → obX P ops D Fs a0 w0 Ms k o
  | [], j, m, h, _, _, _, _ => by simp at h
  | x :: l, 0, m, h, e, e', _, hf => by simp at h; subst h; unfold obX; rw [if_neg e', if_pos e]; exact hf
  | x :: l, j + 1, m, h, e, e', hn, hf => by
    simp only [List.take_succ_cons, List.map_cons, List.all_cons, Bool.and_eq_true] at hn
    unfold obX
    rw [if_neg (by simpa [Made.key] using hn.1.1), if_neg (by simpa [Made.key] using hn.1.2)]
    exact obX_al j (by simpa using h) e e' hn.2 hf
end Go.Proofs.Ytegppdobpihbnaa
