/- A region that draws its order, whose operations (but a last few, in one forced order) make memory at most: ONE look at each operation serves every order. What each leaves in its temporary is said by a predicate that stands while memory grows. -/
import Derived.Test.YtlckappnpdkihaaMem
import Derived.StillTail
namespace Go.Proofs.Ytlckappnpdkihaa
set_option linter.unusedVariables false
set_option linter.unusedSimpArgs false
open Go.RowKit

def Grows (w w' : World) : Prop := Below w.heap.size w w'
theorem Grows.refl (w : World) : Grows w w := Below.refl _ _
theorem Grows.trans {a b c : World} (h : Grows a b) (k : Grows b c) : Grows a c := below_new h k
theorem Grows.alloc (w : World) (o : Obj) : Grows w (w.alloc o) := (Below.refl _ _).alloc (Nat.le_refl _) o
/-- What may become of the world, step by step. -/
structure Pre (R : World → World → Prop) : Prop where
  refl : ∀ w, R w w
  trans : ∀ {a b c}, R a b → R b c → R a c
  drew : ∀ w : World, R w { w with drawn := w.drawn + 1 }
theorem Grows.drew (w : World) (n : Nat) : Grows w (w.drewN n) := below_drewN (Below.refl _ _) n

/-- A predicate that stands while memory grows. -/
def StR (R : World → World → Prop) := { G : Value → World → Prop // ∀ u w w', R w w' → G u w → G u w' }
abbrev StG := StR Grows
def isV {R : World → World → Prop} (v : Value) : StR R := ⟨fun u _ => u = v, fun _ _ _ _ h => h⟩
def anyV {R : World → World → Prop} : StR R := ⟨fun _ _ => True, fun _ _ _ _ h => h⟩

/-- What is said of temporary s. -/
def famOf {R : World → World → Prop} : List (Nat × StR R) → Nat → Value → World → Prop
  | [], _ => fun _ _ => True
  | (k, G) :: l, s => if s = k then G.1 else famOf l s
theorem famOf_up {R : World → World → Prop} : ∀ (Fs : List (Nat × StR R)) (s : Nat) {u : Value} {w w' : World}, R w w' → famOf Fs s u w → famOf Fs s u w'
  | [], _, _, _, _, _, h => h
  | (k, G) :: l, s, u, w, w', hg, h => by
    unfold famOf at *
    split
    · rw [if_pos (by assumption)] at h; exact G.2 u w w' hg h
    · rw [if_neg (by assumption)] at h; exact famOf_up l s hg h

/-- Operands looked up in a frame of temporaries. -/
def rho (f : Nat → Value) : Operand → Value
  | .tmp t => f t
  | .const v => v
  | .global g => .pointer (some ⟨g, 0, none⟩)
  | .func g => .func (.func g) #[] #[]
theorem rho_eval (a : Act) : rho (fun t => a.tmps.getD t undef) = a.eval := by funext x; cases x <;> rfl
/-- What is asked once an operation has yielded this. -/
def famUpon (P : Program) (K : Value → World → Prop) : Result Next → Prop
  | .ok (.value v) w' => K v w'
  | .ok .skip w' => K undef w'
  | .ok (.enter f args) w' => Calls P f args w' fun e w'' => ∃ v, e = .returned v ∧ K v w''
  | _ => False
def boolIs (v : Value) (b : Bool) : Bool := match v with | .bool c => c == b | _ => false
theorem boolIs_bool (c b : Bool) : boolIs (.bool c) b = (c == b) := rfl
theorem boolIs_undef (b : Bool) : boolIs undef b = false := rfl
/-- Its guard. -/
def famWants (ops : Array Oper) (o : Oper) (f : Nat → Value) : Bool :=
  match o.guard with
  | none => true
  | some (g, b) => match (ops[g]?).bind (·.dst) with
    | some d => boolIs (f d) b
    | none => false
theorem famWants_eq (ops : Array Oper) (o : Oper) (a : Act) : famWants ops o (fun t => a.tmps.getD t undef) = Region.wanted o (yielded ops a.tmps) := by
  unfold famWants Region.wanted
  cases o.guard with
  | none => rfl
  | some gb =>
    obtain ⟨g, b⟩ := gb
    simp only [yielded]
    cases (ops[g]?).bind (·.dst) with
    | none => rfl
    | some d =>
      simp only [Option.bind_some, Array.getD_eq_getD_getElem?]
      cases a.tmps[d]? with
      | none => rfl
      | some v => cases v <;> rfl

section
variable {R : World → World → Prop} (P : Program) (ops : Array Oper) (D : List Nat) (Fs : List (Nat × StR R)) (a0 : Act) (w0 : World)
/-- What is known of temporary s where an operation comes up: of one that the region writes, what is said of it; of any other: what it holds. -/
def famAt (s : Nat) (u : Value) (w : World) : Prop := if D.contains s then famOf Fs s u w else u = a0.tmps.getD s undef
/-- One operation, whenever it comes up. -/
def FamOk (o : Oper) : Prop :=
  ∀ (f : Nat → Value) (w : World), R w0 w → (∀ s ∈ o.looksAt ops, famAt D Fs a0 s (f s) w) →
    (famWants ops o f = true → famUpon P (fun v w' => R w w' ∧ ∀ d, o.dst = some d → famOf Fs d v w') ((execOp (rho f) o).run P w)) ∧
    (famWants ops o f = false → ∀ d, o.dst = some d → famOf Fs d undef w)
def famAll : List Oper → Prop
  | [] => True
  | o :: l => FamOk P ops D Fs a0 w0 o ∧ famAll l
end
theorem famAll_at {R : World → World → Prop} {P : Program} {ops : Array Oper} {D : List Nat} {Fs : List (Nat × StR R)} {a0 : Act} {w0 : World} : ∀ {l : List Oper}, famAll P ops D Fs a0 w0 l → ∀ (i : Nat) (o : Oper), l[i]? = some o → FamOk P ops D Fs a0 w0 o
  | [], _, i, o, h => by simp at h
  | x :: l, h, 0, o, e => by simp at e; subst e; exact h.1
  | x :: l, h, i + 1, o, e => famAll_at h.2 i o (by simpa using e)

/-- The frame with what the region's operations have left. -/
def fill (u : Nat → Value) : List Nat → Act → Act
  | [], a => a
  | d :: l, a => fill u l (a.put (some d) (u d))
theorem fill_defers (u : Nat → Value) : ∀ (D : List Nat) (a : Act), (fill u D a).defers = a.defers
  | [], _ => rfl
  | _ :: l, _ => (fill_defers u l _).trans rfl
theorem fill_size (u : Nat → Value) : ∀ (D : List Nat) (a : Act), (fill u D a).tmps.size = a.tmps.size
  | [], _ => rfl
  | _ :: l, _ => (fill_size u l _).trans (by simp [Act.put])
theorem fill_get (u : Nat → Value) : ∀ (D : List Nat) (a : Act) (s : Nat), (fill u D a).tmps[s]? = if s ∈ D ∧ s < a.tmps.size then some (u s) else a.tmps[s]?
  | [], _, _ => by simp [fill]
  | d :: l, a, s => by
    rw [fill, fill_get u l]
    by_cases hs : s < a.tmps.size
    · by_cases h1 : s ∈ l
      · simp [h1, hs, Act.put]
      · by_cases h2 : s = d
        · subst h2; simp [h1, hs, Act.put]
        · simp [h1, h2, Act.put, Array.getElem?_setIfInBounds_ne (Ne.symm h2)]
    · have e : a.tmps[s]? = none := Array.getElem?_eq_none (by omega)
      have e2 : (a.put (some d) (u d)).tmps[s]? = none := Array.getElem?_eq_none (by simp [Act.put]; omega)
      have e3 : ¬ s < (a.put (some d) (u d)).tmps.size := by simp [Act.put]; omega
      rw [if_neg (fun h => e3 h.2), if_neg (fun h => hs h.2), e, e2]
theorem act_ext {a b : Act} (h1 : a.defers = b.defers) (h2 : ∀ s : Nat, a.tmps[s]? = b.tmps[s]?) : a = b := by
  obtain ⟨t1, d1⟩ := a
  obtain ⟨t2, d2⟩ := b
  simp only at h1 h2
  rw [h1, Array.ext_getElem? h2]

/-! ### the conditions on a region, as Bools -/
def famDst (ops : Array Oper) (i : Nat) : Option Nat := (ops[i]?).bind (·.dst)
/-- D lists what the head's operations write, each once, within the frame; who looks at what a fellow writes waits for it; edges lead back. -/
def famB (ops : Array Oper) (n size : Nat) (D : List Nat) : Bool :=
  decide (n ≤ ops.size) && Region.noSelect ops && decide ((List.range n).filterMap (famDst ops) = D) && D.all (fun d => decide (d < size)) &&
  (List.range n).all (fun i => (List.range n).all fun j => decide (i = j) || famDst ops i == none || decide (famDst ops i ≠ famDst ops j)) &&
  (List.range n).all (fun i => match ops[i]? with
    | some o => (o.looksAt ops).all (fun s => (List.range n).all fun j => !(famDst ops j == some s) || Region.waitsFor .any ops i j) && o.after.all (fun e => decide (e.on < i))
    | none => false) &&
  (decide (n = ops.size) || (decide (n < ops.size) && Region.sinkB .any ops n && Region.chainB .any ops n)) &&
  Region.seqB .any ops (ops.size - n) n (Array.replicate n true ++ Array.replicate (ops.size - n) false)

def unl (listed : Array Bool) : Nat → Nat
  | 0 => 0
  | n + 1 => unl listed n + if listed.getD n false then 0 else 1
theorem unl_zero {listed : Array Bool} : ∀ {n : Nat}, unl listed n = 0 → ∀ i, i < n → listed.getD i false = true
  | 0, _, i, hi => by omega
  | n + 1, h, i, hi => by
    unfold unl at h
    rcases Nat.lt_or_ge i n with h1 | h1
    · exact unl_zero (by omega) i h1
    · obtain rfl : i = n := by omega
      cases e : listed.getD i false with
      | true => rfl
      | false => rw [e] at h; simp at h
theorem unl_set {listed : Array Bool} {i : Nat} (hs : i < listed.size) (hf : listed.getD i false = false) : ∀ {n : Nat}, unl (listed.setIfInBounds i true) n + (if i < n then 1 else 0) = unl listed n
  | 0 => by simp [unl]
  | n + 1 => by
    have ih := unl_set hs hf (n := n)
    unfold unl
    rcases Nat.lt_trichotomy i n with h | h | h
    · have h1 : i < n + 1 := by omega
      rw [getD_set_ne false (by omega)]
      simp only [h, h1, if_true] at ih ⊢
      omega
    · subst h
      have h1 : (listed.setIfInBounds i true).getD i false = true := by simp [hs]
      have h2 : ¬ i < i := by omega
      have h3 : i < i + 1 := by omega
      rw [h1, hf]
      simp only [h2, h3, if_true, if_false] at ih ⊢
      simp; omega
    · have h1 : ¬ i < n := by omega
      have h2 : ¬ i < n + 1 := by omega
      rw [getD_set_ne false (by omega)]
      simp only [h1, h2, if_false] at ih ⊢
      omega
theorem unl_least {listed : Array Bool} : ∀ {n : Nat}, 0 < unl listed n → ∃ i, i < n ∧ listed.getD i false = false ∧ ∀ j, j < i → listed.getD j false = true
  | 0, h => by simp [unl] at h
  | n + 1, h => by
    rcases Nat.eq_zero_or_pos (unl listed n) with h0 | h0
    · refine ⟨n, by omega, ?_, fun j hj => unl_zero h0 j hj⟩
      unfold unl at h
      rw [h0] at h
      cases e : listed.getD n false with
      | true => rw [e] at h; simp at h
      | false => rfl
    · obtain ⟨i, h1, h2, h3⟩ := unl_least h0
      exact ⟨i, by omega, h2, h3⟩

/-- How things stand when some of the head's operations have come up. -/
structure FamInv {R : World → World → Prop} (ops : Array Oper) (n : Nat) (D : List Nat) (Fs : List (Nat × StR R)) (a0 : Act) (w0 : World) (listed : Array Bool) (a : Act) (w : World) : Prop where
  head : HeadInv .any ops n listed
  grows : R w0 w
  defers : a.defers = a0.defers
  size : a.tmps.size = a0.tmps.size
  done : ∀ i d, i < n → famDst ops i = some d → listed.getD i false = true → famOf Fs d (a.tmps.getD d undef) w
  rest : ∀ s : Nat, (∀ i, i < n → famDst ops i = some s → listed.getD i false = false) → a.tmps[s]? = a0.tmps[s]?

/-- The conditions, spelled out. -/
structure FamC (ops : Array Oper) (n size : Nat) (D : List Nat) : Prop where
  le : n ≤ ops.size
  sel : Region.noSelect ops = true
  lists : (List.range n).filterMap (famDst ops) = D
  within : ∀ d ∈ D, d < size
  apart : ∀ i j, i < n → j < n → i ≠ j → famDst ops i = none ∨ famDst ops i ≠ famDst ops j
  waits : ∀ i o, i < n → ops[i]? = some o → ∀ s ∈ o.looksAt ops, ∀ j, j < n → famDst ops j = some s → Region.waitsFor .any ops i j = true
  back : ∀ i o, i < n → ops[i]? = some o → ∀ e ∈ o.after, e.on < i
  tail : n = ops.size ∨ (n < ops.size ∧ Region.sinkB .any ops n = true ∧ Region.chainB .any ops n = true)
  seq : Region.seqB .any ops (ops.size - n) n (Array.replicate n true ++ Array.replicate (ops.size - n) false) = true
theorem famB_spec {ops : Array Oper} {n size : Nat} {D : List Nat} (h : famB ops n size D = true) : FamC ops n size D := by
  unfold famB at h
  simp only [Bool.and_eq_true, Bool.or_eq_true, decide_eq_true_eq, List.all_eq_true, List.mem_range] at h
  obtain ⟨⟨⟨⟨⟨⟨⟨h1, h2⟩, h3⟩, h4⟩, h5⟩, h6⟩, h7⟩, h8⟩ := h
  refine ⟨h1, h2, h3, h4, fun i j hi hj hij => ?_, fun i o hi ho s hs j hj hd => ?_, fun i o hi ho e he => ?_, ?_, h8⟩
  · rcases h5 i hi j hj with (h | h) | h
    · exact absurd h hij
    · exact .inl (by simpa using h)
    · exact .inr h
  · have := h6 i hi
    rw [ho] at this
    simp only [Bool.and_eq_true, List.all_eq_true, List.mem_range, Bool.or_eq_true] at this
    rcases this.1 s hs j hj with h | h
    · simp [hd] at h
    · exact h
  · have := h6 i hi
    rw [ho] at this
    simp only [Bool.and_eq_true] at this
    have := Array.all_eq_true'.1 this.2 e he
    simpa using this
  · rcases h7 with h | h
    · exact .inl h
    · exact .inr ⟨h.1.1, h.1.2, h.2⟩

theorem mem_D {ops : Array Oper} {n size : Nat} {D : List Nat} (c : FamC ops n size D) {d : Nat} : d ∈ D ↔ ∃ i, i < n ∧ famDst ops i = some d := by
  rw [← c.lists, List.mem_filterMap]
  simp only [List.mem_range]

/-- An operation that comes up leaves things as they should be. -/
theorem FamInv.step {R : World → World → Prop} (hR : Pre R) {P : Program} {ops : Array Oper} {n : Nat} {D : List Nat} {Fs : List (Nat × StR R)} {a0 : Act} {w0 : World} {listed : Array Bool} {a : Act} {w : World} {Q : Exit → Act → World → Prop} (c : FamC ops n a0.tmps.size D)
    (inv : FamInv ops n D Fs a0 w0 listed a w) {i : Nat} {o : Oper} (ho : ops[i]? = some o) (hi : i < n) (hr : i ∈ Region.ready .any ops listed) (hok : FamOk P ops D Fs a0 w0 o) :
    wpOp P ops Q i (fun a' w' => FamInv ops n D Fs a0 w0 (listed.setIfInBounds i true) a' w') a w := by
  obtain ⟨hun, o', ho', hall⟩ := mem_ready.1 hr
  obtain rfl : o' = o := Option.some.inj (ho'.symm.trans ho)
  have hlt : i < listed.size := by rw [inv.head.size]; exact (Array.getElem?_eq_some_iff.1 ho).1
  have hdst : famDst ops i = o'.dst := by unfold famDst; rw [ho]; rfl
  have facts : ∀ s ∈ o'.looksAt ops, famAt D Fs a0 s ((fun t => a.tmps.getD t undef) s) w := fun s hs => by
    unfold famAt
    by_cases hD : s ∈ D
    · rw [if_pos (by simpa using hD)]
      obtain ⟨j, hj, hd⟩ := (mem_D c).1 hD
      obtain ⟨o2, ho2, e, he, hb, hon⟩ := Region.waitsFor_spec (c.waits i o' hi ho s hs j hj hd)
      obtain rfl : o2 = o' := Option.some.inj (ho2.symm.trans ho)
      have := hall e he hb
      rw [hon] at this
      exact inv.done j s hj hd this
    · rw [if_neg (by simpa using hD)]
      have := inv.rest s (fun j hj hd => absurd ((mem_D c).2 ⟨j, hj, hd⟩) hD)
      simp only [Array.getD_eq_getD_getElem?, this]
  have put : ∀ v w', R w w' → (∀ d, o'.dst = some d → famOf Fs d v w') → FamInv ops n D Fs a0 w0 (listed.setIfInBounds i true) (a.put o'.dst v) w' := fun v w' hg hv => by
    refine ⟨inv.head.set hr hi, hR.trans inv.grows hg, ?_, ?_, fun j d hj hd hl => ?_, fun s hs => ?_⟩
    · rw [← inv.defers]; cases o'.dst <;> rfl
    · rw [← inv.size]; cases o'.dst <;> simp [Act.put]
    · by_cases hij : j = i
      · subst hij
        rw [hdst] at hd
        have hD : d ∈ D := (mem_D c).2 ⟨j, hj, by rw [hdst]; exact hd⟩
        have hs := c.within d hD
        have e : (a.put o'.dst v).tmps.getD d undef = v := by rw [hd]; simp [Act.put, inv.size, hs]
        rw [e]
        exact hv d hd
      · rw [getD_set_ne false (Ne.symm hij)] at hl
        have h1 := famOf_up Fs d hg (inv.done j d hj hd hl)
        have e : (a.put o'.dst v).tmps.getD d undef = a.tmps.getD d undef := by
          cases hd' : o'.dst with
          | none => rfl
          | some d' =>
            have hne : d' ≠ d := fun e => by
              subst e
              rcases c.apart j i hj hi hij with h | h
              · rw [hd] at h; cases h
              · exact h (by rw [hd, hdst, hd'])
            simp [Act.put, Array.getElem?_setIfInBounds_ne hne]
        rw [e]
        exact h1
    · have hne : o'.dst ≠ some s := fun e => by
        have := hs i hi (by rw [hdst]; exact e)
        simp [hlt] at this
      have h1 := inv.rest s (fun j hj hd => by
        have := hs j hj hd
        by_cases hij : i = j
        · subst hij; exact absurd (hdst ▸ hd) hne
        · rwa [getD_set_ne false hij] at this)
      rw [← h1]
      cases hd' : o'.dst with
      | none => rfl
      | some d' => simp [Act.put, Array.getElem?_setIfInBounds_ne (fun e : d' = s => hne (by rw [hd', e]))]
  have ok := hok (fun t => a.tmps.getD t undef) w inv.grows facts
  rw [famWants_eq, rho_eval] at ok
  unfold wpOp
  simp only [ho]
  split
  · rename_i hw
    refine .inl ?_
    have := ok.1 hw
    unfold Oper.wp
    generalize (execOp a.eval o').run P w = r at *
    cases r with
    | ok nx w' =>
      cases nx <;> simp only [famUpon] at this <;> simp only [Oper.upon]
      case value v => exact put v w' this.1 this.2
      case skip => exact put undef w' this.1 this.2
      case enter f args =>
        refine this.mono fun e w'' he => ?_
        obtain ⟨v, rfl, h1, h2⟩ := he
        exact put v w'' h1 h2
    | halt x w' => simp only [famUpon] at this
  · rename_i hw
    exact put undef w (hR.refl w) (ok.2 (by simpa using hw))

theorem fam_any {R : World → World → Prop} (hR : Pre R) {P : Program} {ops : Array Oper} {n : Nat} {D : List Nat} {Fs : List (Nat × StR R)} {a0 : Act} {w0 : World} {Q : Exit → Act → World → Prop} (c : FamC ops n a0.tmps.size D)
    (hok : famAll P ops D Fs a0 w0 (ops.toList.take n))
    (hend : ∀ (u : Nat → Value) (w' : World), R w0 w' → (∀ s ∈ D, famOf Fs s (u s) w') → wpList P ops Q (ops.toList.drop n) (fill u D a0) w') :
    ∀ (k : Nat) (listed : Array Bool) (a : Act) (w : World), unl listed n = k → FamInv ops n D Fs a0 w0 listed a w → wpAny P .any ops Q (k + (ops.size - n)) listed a w := by
  intro k
  induction k with
  | zero =>
    intro listed a w hk inv
    have hl := unl_zero hk
    have e : listed = Array.replicate n true ++ Array.replicate (ops.size - n) false := by
      refine Array.ext_getElem? fun i => ?_
      have hs := inv.head.size
      have hle := c.le
      rcases Nat.lt_or_ge i n with h | h
      · have := hl i h
        rw [Array.getElem?_append_left (by simpa using h)]
        have h2 : i < listed.size := by omega
        simp [h2] at this
        simp [h2, this, h]
      · rw [Array.getElem?_append_right (by simpa using h)]
        rcases Nat.lt_or_ge i ops.size with h2 | h2
        · have := inv.head.tail i h h2
          have h3 : i < listed.size := by omega
          simp [h3] at this
          have h4 : i - n < ops.size - n := by omega
          simp [h3, this, h4]
        · rw [Array.getElem?_eq_none (by omega)]
          simp; omega
    have ha : a = fill (fun s => a.tmps.getD s undef) D a0 := by
      refine act_ext (by rw [fill_defers, inv.defers]) fun s => ?_
      rw [fill_get]
      by_cases hD : s ∈ D
      · have := c.within s hD
        rw [if_pos ⟨hD, this⟩]
        have h2 : s < a.tmps.size := by rw [inv.size]; exact this
        simp [h2]
      · rw [if_neg (fun h => hD h.1)]
        exact inv.rest s fun i hi hd => absurd ((mem_D c).2 ⟨i, hi, hd⟩) hD
    have H := hend (fun s => a.tmps.getD s undef) w inv.grows fun s hs => by
      obtain ⟨i, hi, hd⟩ := (mem_D c).1 hs
      exact inv.done i s hi hd (hl i hi)
    rw [← ha] at H
    rw [Nat.zero_add]
    have hlen : (ops.toList.drop n).length = ops.size - n := by simp
    have := wpAny_of_seq (md := .any) (Q' := Q) (ops := ops) (P := P) (ops.toList.drop n) n listed a w (fun j => by simp [List.getElem?_drop]) (by rw [hlen, e]; exact c.seq) H
    rwa [hlen] at this
  | succ k ih =>
    intro listed a w hk inv
    obtain ⟨i, hi, hf, hall⟩ := unl_least (listed := listed) (n := n) (by omega)
    have hs := inv.head.size
    have hle := c.le
    have hio : i < ops.size := by omega
    have hri : i ∈ Region.ready .any ops listed := mem_ready.2 ⟨getD_in (by omega) hf, ops[i], by simp [hio], fun e he _ => hall _ (c.back i _ hi (by simp [hio]) e he)⟩
    have hlow : ∀ j ∈ Region.ready .any ops listed, j < n := fun j hj => by
      rcases c.tail with h | ⟨h1, h2, h3⟩
      · obtain ⟨_, o, ho, _⟩ := mem_ready.1 hj
        rw [h]; exact (Array.getElem?_eq_some_iff.1 ho).1
      · rcases Nat.lt_or_ge j n with h | h
        · exact h
        · exact absurd hj (tail_waits h2 h3 h1 inv.head _ i rfl hi (getD_in (by omega) hf) j h)
    rw [show k + 1 + (ops.size - n) = (k + (ops.size - n)) + 1 by omega]
    refine ⟨fun h => (by rw [h] at hri; cases hri), fun j hj => ?_⟩
    obtain ⟨hun, o, ho, _⟩ := mem_ready.1 hj
    have hjn := hlow j hj
    have hjs : j < listed.size := by rw [hs]; exact (Array.getElem?_eq_some_iff.1 ho).1
    refine wpOp_mono (fun a' w' inv' => ih _ a' w' ?_ inv') (inv.step hR c ho hjn hj (famAll_at hok j o (by simp [hjn, ho])))
    have := unl_set hjs (getD_both hun) (n := n)
    rw [if_pos hjn] at this
    omega

theorem unl_start (m : Nat) : ∀ n, unl (Array.replicate m false) n = n
  | 0 => rfl
  | n + 1 => by unfold unl; rw [unl_start m n, getD_replicate_false]; simp

/-- THE LAW: a region that draws its order; n: how many operations ahead of the tail; D: what they write; Fs: what is said of each. -/
theorem wp_famR {R : World → World → Prop} (hR : Pre R) {P : Program} {id n size : Nat} {l : List Oper} {D : List Nat} {a : Act} {w : World} {Q : Exit → Act → World → Prop} (Fs : List (Nat × StR R)) (hm : P.follows .mixedOrders = true) (hs : a.tmps.size = size) (hB : famB l.toArray n size D = true)
    (hok : famAll P l.toArray D Fs a w (l.take n))
    (hend : ∀ (u : Nat → Value) (w' : World), R w w' → (∀ s ∈ D, famOf Fs s (u s) w') → wpList P l.toArray Q (l.drop n) (fill u D a) w') : (Code.region id l.toArray true).wp P Q a w := by
  subst hs
  have c := famB_spec hB
  refine wp_region_any hm ?_
  have inv0 : FamInv l.toArray n D Fs a w (Array.replicate l.toArray.size false) a { w with drawn := w.drawn + 1 } :=
    ⟨⟨by simp, fun j oj _ hl => (by rw [getD_replicate_false] at hl; cases hl), fun t _ ht => getD_in (by simpa using ht) (getD_replicate_false _ _)⟩,
      hR.drew w, rfl, rfl, fun i d _ _ hl => (by rw [getD_replicate_false] at hl; cases hl), fun s _ => rfl⟩
  have := fam_any (Q := Q) hR c hok hend n _ a _ (unl_start _ n) inv0
  rwa [show n + (l.toArray.size - n) = l.toArray.size by have := c.le; omega] at this
theorem Grows.pre : Pre Grows := ⟨Grows.refl, Grows.trans, fun w => Grows.drew w 1⟩
theorem wp_fam {P : Program} {id n size : Nat} {l : List Oper} {D : List Nat} {a : Act} {w : World} {Q : Exit → Act → World → Prop} (Fs : List (Nat × StG)) (hm : P.follows .mixedOrders = true) (hs : a.tmps.size = size) (hB : famB l.toArray n size D = true)
    (hok : famAll P l.toArray D Fs a w (l.take n))
    (hend : ∀ (u : Nat → Value) (w' : World), Grows w w' → (∀ s ∈ D, famOf Fs s (u s) w') → wpList P l.toArray Q (l.drop n) (fill u D a) w') : (Code.region id l.toArray true).wp P Q a w := wp_famR Grows.pre Fs hm hs hB hok hend
/-- Block g may be written, and memory made. -/
def GrowsB (g : Option Nat) (w w' : World) : Prop := w.grownBy w' g
theorem GrowsB.refl (g : Option Nat) (w : World) : GrowsB g w w := World.grownBy.refl w g
theorem GrowsB.pre (g : Option Nat) : Pre (GrowsB g) := ⟨fun w => World.grownBy.refl w g, fun h k => gb_trans h k, fun w => gb_drewN (World.grownBy.refl w g) 1⟩

/-- What is known of a cell stands while memory grows. -/
theorem cell_up {w w' : World} {p : Addr} {v : Value} (h : w.cell? p = some v) (hg : Grows w w') : w'.cell? p = some v := (World.cell?_of_block (w := w) (Below.block hg _ (M.cellLt h))).trans h
end Go.Proofs.Ytlckappnpdkihaa
