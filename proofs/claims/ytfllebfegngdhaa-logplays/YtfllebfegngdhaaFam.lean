/- A region that draws its order, whose operations (but a last few, in one forced order) make memory at most: ONE look at each operation serves every order. What each leaves in its temporary is said by a predicate that stands while memory grows. | The law of Fam.lean, where some operations that hang on no world (copies, parts of tuples) may come up behind the tail has begun, and where what is allotted is apart. | The law of Fam.lean for a region that makes blocks and fills each of them once by a store, whichever order it draws: reads of older blocks may come up ahead of, between and behind the stores. | The law of Fam.lean with a say of one's own about the world while the region goes on: X L f w, where L tells which operations have come up and f what the temporaries hold. The special operations (sp) may assume it and must leave it; the others at most make memory. -/
import Derived.Test.YtfllebfegngdhaaMem
import Derived.StillTail

section
namespace Go.Proofs.Ytfllebfegngdhaa
set_option linter.unusedVariables false
set_option linter.unusedSimpArgs false
open Go.RowKit

def Grows (w w' : World) : Prop := Below w.heap.size w w'
theorem Grows.refl (w : World) : Grows w w := Below.refl _ _
theorem Grows.trans {a b c : World} (h : Grows a b) (k : Grows b c) : Grows a c := below_new h k
theorem Grows.alloc (w : World) (o : Obj) : Grows w (w.alloc o) := (Below.refl _ _).alloc (Nat.le_refl _) o
/-- What may become of the world, step by step. -/
structure Pre (R : World → World → Prop) : Prop where
  refl : ∀ w, R w w
  trans : ∀ {a b c}, R a b → R b c → R a c
  drew : ∀ w : World, R w { w with drawn := w.drawn + 1 }
theorem Grows.drew (w : World) (n : Nat) : Grows w (w.drewN n) := below_drewN (Below.refl _ _) n

/-- A predicate that stands while memory grows. -/
def StR (R : World → World → Prop) := { G : Value → World → Prop // ∀ u w w', R w w' → G u w → G u w' }
abbrev StG := StR Grows
def isV {R : World → World → Prop} (v : Value) : StR R := ⟨fun u _ => u = v, fun _ _ _ _ h => h⟩
def anyV {R : World → World → Prop} : StR R := ⟨fun _ _ => True, fun _ _ _ _ h => h⟩

/-- What is said of temporary s. -/
def famOf {R : World → World → Prop} : List (Nat × StR R) → Nat → Value → World → Prop
  | [], _ => fun _ _ => True
  | (k, G) :: l, s => if s = k then G.1 else famOf l s
theorem famOf_up {R : World → World → Prop} : ∀ (Fs : List (Nat × StR R)) (s : Nat) {u : Value} {w w' : World}, R w w' → famOf Fs s u w → famOf Fs s u w'
  | [], _, _, _, _, _, h => h
  | (k, G) :: l, s, u, w, w', hg, h => by
    unfold famOf at *
    split
    · rw [if_pos (by assumption)] at h; exact G.2 u w w' hg h
    · rw [if_neg (by assumption)] at h; exact famOf_up l s hg h

/-- Operands looked up in a frame of temporaries. -/
def rho (f : Nat → Value) : Operand → Value
  | .tmp t => f t
  | .const v => v
  | .global g => .pointer (some ⟨g, 0, none⟩)
  | .func g => .func (.func g) #[] #[]
theorem rho_eval (a : Act) : rho (fun t => a.tmps.getD t undef) = a.eval := by funext x; cases x <;> rfl
/-- What is asked once an operation has yielded this. -/
def famUpon (P : Program) (K : Value → World → Prop) : Result Next → Prop
  | .ok (.value v) w' => K v w'
  | .ok .skip w' => K undef w'
  | .ok (.enter f args) w' => Calls P f args w' fun e w'' => ∃ v, e = .returned v ∧ K v w''
  | _ => False
def boolIs (v : Value) (b : Bool) : Bool := match v with | .bool c => c == b | _ => false
theorem boolIs_bool (c b : Bool) : boolIs (.bool c) b = (c == b) := rfl
theorem boolIs_undef (b : Bool) : boolIs undef b = false := rfl
/-- Its guard. -/
def famWants (ops : Array Oper) (o : Oper) (f : Nat → Value) : Bool :=
  match o.guard with
  | none => true
  | some (g, b) => match (ops[g]?).bind (·.dst) with
    | some d => boolIs (f d) b
    | none => false
theorem famWants_eq (ops : Array Oper) (o : Oper) (a : Act) : famWants ops o (fun t => a.tmps.getD t undef) = Region.wanted o (yielded ops a.tmps) := by
  unfold famWants Region.wanted
  cases o.guard with
  | none => rfl
  | some gb =>
    obtain ⟨g, b⟩ := gb
    simp only [yielded]
    cases (ops[g]?).bind (·.dst) with
    | none => rfl
    | some d =>
      simp only [Option.bind_some, Array.getD_eq_getD_getElem?]
      cases a.tmps[d]? with
      | none => rfl
      | some v => cases v <;> rfl

section
variable {R : World → World → Prop} (P : Program) (ops : Array Oper) (D : List Nat) (Fs : List (Nat × StR R)) (a0 : Act) (w0 : World)
/-- What is known of temporary s where an operation comes up: of one that the region writes, what is said of it; of any other: what it holds. -/
def famAt (s : Nat) (u : Value) (w : World) : Prop := if D.contains s then famOf Fs s u w else u = a0.tmps.getD s undef
/-- One operation, whenever it comes up. -/
def FamOk (o : Oper) : Prop :=
  ∀ (f : Nat → Value) (w : World), R w0 w → (∀ s ∈ o.looksAt ops, famAt D Fs a0 s (f s) w) →
    (famWants ops o f = true → famUpon P (fun v w' => R w w' ∧ ∀ d, o.dst = some d → famOf Fs d v w') ((execOp (rho f) o).run P w)) ∧
    (famWants ops o f = false → ∀ d, o.dst = some d → famOf Fs d undef w)
def famAll : List Oper → Prop
  | [] => True
  | o :: l => FamOk P ops D Fs a0 w0 o ∧ famAll l
end
theorem famAll_at {R : World → World → Prop} {P : Program} {ops : Array Oper} {D : List Nat} {Fs : List (Nat × StR R)} {a0 : Act} {w0 : World} : ∀ {l : List Oper}, famAll P ops D Fs a0 w0 l → ∀ (i : Nat) (o : Oper), l[i]? = some o → FamOk P ops D Fs a0 w0 o
  | [], _, i, o, h => by simp at h
  | x :: l, h, 0, o, e => by simp at e; subst e; exact h.1
  | x :: l, h, i + 1, o, e => famAll_at h.2 i o (by simpa using e)

/-- The frame with what the region's operations have left. -/
def fill (u : Nat → Value) : List Nat → Act → Act
  | [], a => a
  | d :: l, a => fill u l (a.put (some d) (u d))
theorem fill_defers (u : Nat → Value) : ∀ (D : List Nat) (a : Act), (fill u D a).defers = a.defers
  | [], _ => rfl
  | _ :: l, _ => (fill_defers u l _).trans rfl
theorem fill_size (u : Nat → Value) : ∀ (D : List Nat) (a : Act), (fill u D a).tmps.size = a.tmps.size
  | [], _ => rfl
  | _ :: l, _ => (fill_size u l _).trans (by simp [Act.put])
theorem fill_get (u : Nat → Value) : ∀ (D : List Nat) (a : Act) (s : Nat), (fill u D a).tmps[s]? = if s ∈ D ∧ s < a.tmps.size then some (u s) else a.tmps[s]?
  | [], _, _ => by simp [fill]
  | d :: l, a, s => by
    rw [fill, fill_get u l]
    by_cases hs : s < a.tmps.size
    · by_cases h1 : s ∈ l
      · simp [h1, hs, Act.put]
      · by_cases h2 : s = d
        · subst h2; simp [h1, hs, Act.put]
        · simp [h1, h2, Act.put, Array.getElem?_setIfInBounds_ne (Ne.symm h2)]
    · have e : a.tmps[s]? = none := Array.getElem?_eq_none (by omega)
      have e2 : (a.put (some d) (u d)).tmps[s]? = none := Array.getElem?_eq_none (by simp [Act.put]; omega)
      have e3 : ¬ s < (a.put (some d) (u d)).tmps.size := by simp [Act.put]; omega
      rw [if_neg (fun h => e3 h.2), if_neg (fun h => hs h.2), e, e2]
theorem act_ext {a b : Act} (h1 : a.defers = b.defers) (h2 : ∀ s : Nat, a.tmps[s]? = b.tmps[s]?) : a = b := by
  obtain ⟨t1, d1⟩ := a
  obtain ⟨t2, d2⟩ := b
  simp only at h1 h2
  rw [h1, Array.ext_getElem? h2]

/-! ### the conditions on a region, as Bools -/
def famDst (ops : Array Oper) (i : Nat) : Option Nat := (ops[i]?).bind (·.dst)
/-- D lists what the head's operations write, each once, within the frame; who looks at what a fellow writes waits for it; edges lead back. -/
def famB (ops : Array Oper) (n size : Nat) (D : List Nat) : Bool :=
  decide (n ≤ ops.size) && Region.noSelect ops && decide ((List.range n).filterMap (famDst ops) = D) && D.all (fun d => decide (d < size)) &&
  (List.range n).all (fun i => (List.range n).all fun j => decide (i = j) || famDst ops i == none || decide (famDst ops i ≠ famDst ops j)) &&
  (List.range n).all (fun i => match ops[i]? with
    | some o => (o.looksAt ops).all (fun s => (List.range n).all fun j => !(famDst ops j == some s) || Region.waitsFor .any ops i j) && o.after.all (fun e => decide (e.on < i))
    | none => false) &&
  (decide (n = ops.size) || (decide (n < ops.size) && Region.sinkB .any ops n && Region.chainB .any ops n)) &&
  Region.seqB .any ops (ops.size - n) n (Array.replicate n true ++ Array.replicate (ops.size - n) false)

def unl (listed : Array Bool) : Nat → Nat
  | 0 => 0
  | n + 1 => unl listed n + if listed.getD n false then 0 else 1
theorem unl_zero {listed : Array Bool} : ∀ {n : Nat}, unl listed n = 0 → ∀ i, i < n → listed.getD i false = true
  | 0, _, i, hi => by omega
  | n + 1, h, i, hi => by
    unfold unl at h
    rcases Nat.lt_or_ge i n with h1 | h1
    · exact unl_zero (by omega) i h1
    · obtain rfl : i = n := by omega
      cases e : listed.getD i false with
      | true => rfl
      | false => rw [e] at h; simp at h
theorem unl_set {listed : Array Bool} {i : Nat} (hs : i < listed.size) (hf : listed.getD i false = false) : ∀ {n : Nat}, unl (listed.setIfInBounds i true) n + (if i < n then 1 else 0) = unl listed n
  | 0 => by simp [unl]
  | n + 1 => by
    have ih := unl_set hs hf (n := n)
    unfold unl
    rcases Nat.lt_trichotomy i n with h | h | h
    · have h1 : i < n + 1 := by omega
      rw [getD_set_ne false (by omega)]
      simp only [h, h1, if_true] at ih ⊢
      omega
    · subst h
      have h1 : (listed.setIfInBounds i true).getD i false = true := by simp [hs]
      have h2 : ¬ i < i := by omega
      have h3 : i < i + 1 := by omega
      rw [h1, hf]
      simp only [h2, h3, if_true, if_false] at ih ⊢
      simp; omega
    · have h1 : ¬ i < n := by omega
      have h2 : ¬ i < n + 1 := by omega
      rw [getD_set_ne false (by omega)]
      simp only [h1, h2, if_false] at ih ⊢
      omega
theorem unl_least {listed : Array Bool} : ∀ {n : Nat}, 0 < unl listed n → ∃ i, i < n ∧ listed.getD i false = false ∧ ∀ j, j < i → listed.getD j false = true
  | 0, h => by simp [unl] at h
  | n + 1, h => by
    rcases Nat.eq_zero_or_pos (unl listed n) with h0 | h0
    · refine ⟨n, by omega, ?_, fun j hj => unl_zero h0 j hj⟩
      unfold unl at h
      rw [h0] at h
      cases e : listed.getD n false with
      | true => rw [e] at h; simp at h
      | false => rfl
    · obtain ⟨i, h1, h2, h3⟩ := unl_least h0
      exact ⟨i, by omega, h2, h3⟩

/-- How things stand when some of the head's operations have come up. -/
structure FamInv {R : World → World → Prop} (ops : Array Oper) (n : Nat) (D : List Nat) (Fs : List (Nat × StR R)) (a0 : Act) (w0 : World) (listed : Array Bool) (a : Act) (w : World) : Prop where
  head : HeadInv .any ops n listed
  grows : R w0 w
  defers : a.defers = a0.defers
  size : a.tmps.size = a0.tmps.size
  done : ∀ i d, i < n → famDst ops i = some d → listed.getD i false = true → famOf Fs d (a.tmps.getD d undef) w
  rest : ∀ s : Nat, (∀ i, i < n → famDst ops i = some s → listed.getD i false = false) → a.tmps[s]? = a0.tmps[s]?

/-- The conditions, spelled out. -/
structure FamC (ops : Array Oper) (n size : Nat) (D : List Nat) : Prop where
  le : n ≤ ops.size
  sel : Region.noSelect ops = true
  lists : (List.range n).filterMap (famDst ops) = D
  within : ∀ d ∈ D, d < size
  apart : ∀ i j, i < n → j < n → i ≠ j → famDst ops i = none ∨ famDst ops i ≠ famDst ops j
  waits : ∀ i o, i < n → ops[i]? = some o → ∀ s ∈ o.looksAt ops, ∀ j, j < n → famDst ops j = some s → Region.waitsFor .any ops i j = true
  back : ∀ i o, i < n → ops[i]? = some o → ∀ e ∈ o.after, e.on < i
  tail : n = ops.size ∨ (n < ops.size ∧ Region.sinkB .any ops n = true ∧ Region.chainB .any ops n = true)
  seq : Region.seqB .any ops (ops.size - n) n (Array.replicate n true ++ Array.replicate (ops.size - n) false) = true
theorem famB_spec {ops : Array Oper} {n size : Nat} {D : List Nat} (h : famB ops n size D = true) : FamC ops n size D := by
  unfold famB at h
  simp only [Bool.and_eq_true, Bool.or_eq_true, decide_eq_true_eq, List.all_eq_true, List.mem_range] at h
  obtain ⟨⟨⟨⟨⟨⟨⟨h1, h2⟩, h3⟩, h4⟩, h5⟩, h6⟩, h7⟩, h8⟩ := h
  refine ⟨h1, h2, h3, h4, fun i j hi hj hij => ?_, fun i o hi ho s hs j hj hd => ?_, fun i o hi ho e he => ?_, ?_, h8⟩
  · rcases h5 i hi j hj with (h | h) | h
    · exact absurd h hij
    · exact .inl (by simpa using h)
    · exact .inr h
  · have := h6 i hi
    rw [ho] at this
    simp only [Bool.and_eq_true, List.all_eq_true, List.mem_range, Bool.or_eq_true] at this
    rcases this.1 s hs j hj with h | h
    · simp [hd] at h
    · exact h
  · have := h6 i hi
    rw [ho] at this
    simp only [Bool.and_eq_true] at this
    have := Array.all_eq_true'.1 this.2 e he
    simpa using this
  · rcases h7 with h | h
    · exact .inl h
    · exact .inr ⟨h.1.1, h.1.2, h.2⟩

theorem mem_D {ops : Array Oper} {n size : Nat} {D : List Nat} (c : FamC ops n size D) {d : Nat} : d ∈ D ↔ ∃ i, i < n ∧ famDst ops i = some d := by
  rw [← c.lists, List.mem_filterMap]
  simp only [List.mem_range]

/-- An operation that comes up leaves things as they should be. -/
theorem FamInv.step {R : World → World → Prop} (hR : Pre R) {P : Program} {ops : Array Oper} {n : Nat} {D : List Nat} {Fs : List (Nat × StR R)} {a0 : Act} {w0 : World} {listed : Array Bool} {a : Act} {w : World} {Q : Exit → Act → World → Prop} (c : FamC ops n a0.tmps.size D)
    (inv : FamInv ops n D Fs a0 w0 listed a w) {i : Nat} {o : Oper} (ho : ops[i]? = some o) (hi : i < n) (hr : i ∈ Region.ready .any ops listed) (hok : FamOk P ops D Fs a0 w0 o) :
    wpOp P ops Q i (fun a' w' => FamInv ops n D Fs a0 w0 (listed.setIfInBounds i true) a' w') a w := by
  obtain ⟨hun, o', ho', hall⟩ := mem_ready.1 hr
  obtain rfl : o' = o := Option.some.inj (ho'.symm.trans ho)
  have hlt : i < listed.size := by rw [inv.head.size]; exact (Array.getElem?_eq_some_iff.1 ho).1
  have hdst : famDst ops i = o'.dst := by unfold famDst; rw [ho]; rfl
  have facts : ∀ s ∈ o'.looksAt ops, famAt D Fs a0 s ((fun t => a.tmps.getD t undef) s) w := fun s hs => by
    unfold famAt
    by_cases hD : s ∈ D
    · rw [if_pos (by simpa using hD)]
      obtain ⟨j, hj, hd⟩ := (mem_D c).1 hD
      obtain ⟨o2, ho2, e, he, hb, hon⟩ := Region.waitsFor_spec (c.waits i o' hi ho s hs j hj hd)
      obtain rfl : o2 = o' := Option.some.inj (ho2.symm.trans ho)
      have := hall e he hb
      rw [hon] at this
      exact inv.done j s hj hd this
    · rw [if_neg (by simpa using hD)]
      have := inv.rest s (fun j hj hd => absurd ((mem_D c).2 ⟨j, hj, hd⟩) hD)
      simp only [Array.getD_eq_getD_getElem?, this]
  have put : ∀ v w', R w w' → (∀ d, o'.dst = some d → famOf Fs d v w') → FamInv ops n D Fs a0 w0 (listed.setIfInBounds i true) (a.put o'.dst v) w' := fun v w' hg hv => by
    refine ⟨inv.head.set hr hi, hR.trans inv.grows hg, ?_, ?_, fun j d hj hd hl => ?_, fun s hs => ?_⟩
    · rw [← inv.defers]; cases o'.dst <;> rfl
    · rw [← inv.size]; cases o'.dst <;> simp [Act.put]
    · by_cases hij : j = i
      · subst hij
        rw [hdst] at hd
        have hD : d ∈ D := (mem_D c).2 ⟨j, hj, by rw [hdst]; exact hd⟩
        have hs := c.within d hD
        have e : (a.put o'.dst v).tmps.getD d undef = v := by rw [hd]; simp [Act.put, inv.size, hs]
        rw [e]
        exact hv d hd
      · rw [getD_set_ne false (Ne.symm hij)] at hl
        have h1 := famOf_up Fs d hg (inv.done j d hj hd hl)
        have e : (a.put o'.dst v).tmps.getD d undef = a.tmps.getD d undef := by
          cases hd' : o'.dst with
          | none => rfl
          | some d' =>
            have hne : d' ≠ d := fun e => by
              subst e
              rcases c.apart j i hj hi hij with h | h
              · rw [hd] at h; cases h
              · exact h (by rw [hd, hdst, hd'])
            simp [Act.put, Array.getElem?_setIfInBounds_ne hne]
        rw [e]
        exact h1
    · have hne : o'.dst ≠ some s := fun e => by
        have := hs i hi (by rw [hdst]; exact e)
        simp [hlt] at this
      have h1 := inv.rest s (fun j hj hd => by
        have := hs j hj hd
        by_cases hij : i = j
        · subst hij; exact absurd (hdst ▸ hd) hne
        · rwa [getD_set_ne false hij] at this)
      rw [← h1]
      cases hd' : o'.dst with
      | none => rfl
      | some d' => simp [Act.put, Array.getElem?_setIfInBounds_ne (fun e : d' = s => hne (by rw [hd', e]))]
  have ok := hok (fun t => a.tmps.getD t undef) w inv.grows facts
  rw [famWants_eq, rho_eval] at ok
  unfold wpOp
  simp only [ho]
  split
  · rename_i hw
    refine .inl ?_
    have := ok.1 hw
    unfold Oper.wp
    generalize (execOp a.eval o').run P w = r at *
    cases r with
    | ok nx w' =>
      cases nx <;> simp only [famUpon] at this <;> simp only [Oper.upon]
      case value v => exact put v w' this.1 this.2
      case skip => exact put undef w' this.1 this.2
      case enter f args =>
        refine this.mono fun e w'' he => ?_
        obtain ⟨v, rfl, h1, h2⟩ := he
        exact put v w'' h1 h2
    | halt x w' => simp only [famUpon] at this
  · rename_i hw
    exact put undef w (hR.refl w) (ok.2 (by simpa using hw))

theorem fam_any {R : World → World → Prop} (hR : Pre R) {P : Program} {ops : Array Oper} {n : Nat} {D : List Nat} {Fs : List (Nat × StR R)} {a0 : Act} {w0 : World} {Q : Exit → Act → World → Prop} (c : FamC ops n a0.tmps.size D)
    (hok : famAll P ops D Fs a0 w0 (ops.toList.take n))
    (hend : ∀ (u : Nat → Value) (w' : World), R w0 w' → (∀ s ∈ D, famOf Fs s (u s) w') → wpList P ops Q (ops.toList.drop n) (fill u D a0) w') :
    ∀ (k : Nat) (listed : Array Bool) (a : Act) (w : World), unl listed n = k → FamInv ops n D Fs a0 w0 listed a w → wpAny P .any ops Q (k + (ops.size - n)) listed a w := by
  intro k
  induction k with
  | zero =>
    intro listed a w hk inv
    have hl := unl_zero hk
    have e : listed = Array.replicate n true ++ Array.replicate (ops.size - n) false := by
      refine Array.ext_getElem? fun i => ?_
      have hs := inv.head.size
      have hle := c.le
      rcases Nat.lt_or_ge i n with h | h
      · have := hl i h
        rw [Array.getElem?_append_left (by simpa using h)]
        have h2 : i < listed.size := by omega
        simp [h2] at this
        simp [h2, this, h]
      · rw [Array.getElem?_append_right (by simpa using h)]
        rcases Nat.lt_or_ge i ops.size with h2 | h2
        · have := inv.head.tail i h h2
          have h3 : i < listed.size := by omega
          simp [h3] at this
          have h4 : i - n < ops.size - n := by omega
          simp [h3, this, h4]
        · rw [Array.getElem?_eq_none (by omega)]
          simp; omega
    have ha : a = fill (fun s => a.tmps.getD s undef) D a0 := by
      refine act_ext (by rw [fill_defers, inv.defers]) fun s => ?_
      rw [fill_get]
      by_cases hD : s ∈ D
      · have := c.within s hD
        rw [if_pos ⟨hD, this⟩]
        have h2 : s < a.tmps.size := by rw [inv.size]; exact this
        simp [h2]
      · rw [if_neg (fun h => hD h.1)]
        exact inv.rest s fun i hi hd => absurd ((mem_D c).2 ⟨i, hi, hd⟩) hD
    have H := hend (fun s => a.tmps.getD s undef) w inv.grows fun s hs => by
      obtain ⟨i, hi, hd⟩ := (mem_D c).1 hs
      exact inv.done i s hi hd (hl i hi)
    rw [← ha] at H
    rw [Nat.zero_add]
    have hlen : (ops.toList.drop n).length = ops.size - n := by simp
    have := wpAny_of_seq (md := .any) (Q' := Q) (ops := ops) (P := P) (ops.toList.drop n) n listed a w (fun j => by simp [List.getElem?_drop]) (by rw [hlen, e]; exact c.seq) H
    rwa [hlen] at this
  | succ k ih =>
    intro listed a w hk inv
    obtain ⟨i, hi, hf, hall⟩ := unl_least (listed := listed) (n := n) (by omega)
    have hs := inv.head.size
    have hle := c.le
    have hio : i < ops.size := by omega
    have hri : i ∈ Region.ready .any ops listed := mem_ready.2 ⟨getD_in (by omega) hf, ops[i], by simp [hio], fun e he _ => hall _ (c.back i _ hi (by simp [hio]) e he)⟩
    have hlow : ∀ j ∈ Region.ready .any ops listed, j < n := fun j hj => by
      rcases c.tail with h | ⟨h1, h2, h3⟩
      · obtain ⟨_, o, ho, _⟩ := mem_ready.1 hj
        rw [h]; exact (Array.getElem?_eq_some_iff.1 ho).1
      · rcases Nat.lt_or_ge j n with h | h
        · exact h
        · exact absurd hj (tail_waits h2 h3 h1 inv.head _ i rfl hi (getD_in (by omega) hf) j h)
    rw [show k + 1 + (ops.size - n) = (k + (ops.size - n)) + 1 by omega]
    refine ⟨fun h => (by rw [h] at hri; cases hri), fun j hj => ?_⟩
    obtain ⟨hun, o, ho, _⟩ := mem_ready.1 hj
    have hjn := hlow j hj
    have hjs : j < listed.size := by rw [hs]; exact (Array.getElem?_eq_some_iff.1 ho).1
    refine wpOp_mono (fun a' w' inv' => ih _ a' w' ?_ inv') (inv.step hR c ho hjn hj (famAll_at hok j o (by simp [hjn, ho])))
    have := unl_set hjs (getD_both hun) (n := n)
    rw [if_pos hjn] at this
    omega

theorem unl_start (m : Nat) : ∀ n, unl (Array.replicate m false) n = n
  | 0 => rfl
  | n + 1 => by unfold unl; rw [unl_start m n, getD_replicate_false]; simp

/-- THE LAW: a region that draws its order; n: how many operations ahead of the tail; D: what they write; Fs: what is said of each. -/
theorem wp_famR {R : World → World → Prop} (hR : Pre R) {P : Program} {id n size : Nat} {l : List Oper} {D : List Nat} {a : Act} {w : World} {Q : Exit → Act → World → Prop} (Fs : List (Nat × StR R)) (hm : P.follows .mixedOrders = true) (hs : a.tmps.size = size) (hB : famB l.toArray n size D = true)
    (hok : famAll P l.toArray D Fs a w (l.take n))
    (hend : ∀ (u : Nat → Value) (w' : World), R w w' → (∀ s ∈ D, famOf Fs s (u s) w') → wpList P l.toArray Q (l.drop n) (fill u D a) w') : (Code.region id l.toArray true).wp P Q a w := by
  subst hs
  have c := famB_spec hB
  refine wp_region_any hm ?_
  have inv0 : FamInv l.toArray n D Fs a w (Array.replicate l.toArray.size false) a { w with drawn := w.drawn + 1 } :=
    ⟨⟨by simp, fun j oj _ hl => (by rw [getD_replicate_false] at hl; cases hl), fun t _ ht => getD_in (by simpa using ht) (getD_replicate_false _ _)⟩,
      hR.drew w, rfl, rfl, fun i d _ _ hl => (by rw [getD_replicate_false] at hl; cases hl), fun s _ => rfl⟩
  have := fam_any (Q := Q) hR c hok hend n _ a _ (unl_start _ n) inv0
  rwa [show n + (l.toArray.size - n) = l.toArray.size by have := c.le; omega] at this
theorem Grows.pre : Pre Grows := ⟨Grows.refl, Grows.trans, fun w => Grows.drew w 1⟩
theorem wp_fam {P : Program} {id n size : Nat} {l : List Oper} {D : List Nat} {a : Act} {w : World} {Q : Exit → Act → World → Prop} (Fs : List (Nat × StG)) (hm : P.follows .mixedOrders = true) (hs : a.tmps.size = size) (hB : famB l.toArray n size D = true)
    (hok : famAll P l.toArray D Fs a w (l.take n))
    (hend : ∀ (u : Nat → Value) (w' : World), Grows w w' → (∀ s ∈ D, famOf Fs s (u s) w') → wpList P l.toArray Q (l.drop n) (fill u D a) w') : (Code.region id l.toArray true).wp P Q a w := wp_famR Grows.pre Fs hm hs hB hok hend
/-- Block g may be written, and memory made. -/
def GrowsB (g : Option Nat) (w w' : World) : Prop := w.grownBy w' g
theorem GrowsB.refl (g : Option Nat) (w : World) : GrowsB g w w := World.grownBy.refl w g
theorem GrowsB.pre (g : Option Nat) : Pre (GrowsB g) := ⟨fun w => World.grownBy.refl w g, fun h k => gb_trans h k, fun w => gb_drewN (World.grownBy.refl w g) 1⟩

/-- What is known of a cell stands while memory grows. -/
theorem cell_up {w w' : World} {p : Addr} {v : Value} (h : w.cell? p = some v) (hg : Grows w w') : w'.cell? p = some v := (World.cell?_of_block (w := w) (Below.block hg _ (M.cellLt h))).trans h
end Go.Proofs.Ytfllebfegngdhaa
end

section
namespace Go.Proofs.Ytfllebfegngdhaa
set_option linter.unusedVariables false
set_option linter.unusedSimpArgs false
open Go.RowKit

def isAlloc (o : Oper) : Bool := match o.op with | .alloc _ => true | _ => false
def allocAt (ops : Array Oper) (i : Nat) : Bool := match ops[i]? with | some o => isAlloc o | none => false
section
variable (P : Program) (ops : Array Oper) (D : List Nat) (Fs : List (Nat × StG)) (a0 : Act) (w0 : World)
/-- One operation, whenever it comes up. -/
def FamOkF (o : Oper) : Prop :=
  ∀ (f : Nat → Value) (w : World), Grows w0 w → (∀ s ∈ o.looksAt ops, famAt D Fs a0 s (f s) w) →
    (famWants ops o f = true → famUpon P (fun v w' => Grows w w' ∧ (∀ d, o.dst = some d → famOf Fs d v w') ∧ (isAlloc o = true → v = .pointer (some ⟨w.heap.size, 0, none⟩) ∧ w.heap.size < w'.heap.size)) ((execOp (rho f) o).run P w)) ∧
    (famWants ops o f = false → (∀ d, o.dst = some d → famOf Fs d undef w) ∧ isAlloc o = false)
/-- One that hangs on no world. -/
def FamFl (o : Oper) : Prop :=
  ∀ (f : Nat → Value) (w : World), Grows w0 w → (∀ s ∈ o.looksAt ops, famAt D Fs a0 s (f s) w) →
    famWants ops o f = true ∧ ∃ v, (∀ w', (execOp (rho f) o).run P w' = .ok (.value v) w') ∧ ∀ d, o.dst = some d → famOf Fs d v w
def famAllF (fl : List Nat) : Nat → List Oper → Prop
  | _, [] => True
  | k, o :: l => (if fl.contains k then FamFl P ops D Fs a0 w0 o else FamOkF P ops D Fs a0 w0 o) ∧ famAllF fl (k + 1) l
end
theorem famAllF_at {P : Program} {ops : Array Oper} {D : List Nat} {Fs : List (Nat × StG)} {a0 : Act} {w0 : World} {fl : List Nat} : ∀ {l : List Oper} {k : Nat}, famAllF P ops D Fs a0 w0 fl k l → ∀ (i : Nat) (o : Oper), l[i]? = some o → if fl.contains (k + i) then FamFl P ops D Fs a0 w0 o else FamOkF P ops D Fs a0 w0 o
  | [], _, _, i, o, h => by simp at h
  | x :: l, k, h, 0, o, e => by simp at e; subst e; exact h.1
  | x :: l, k, h, i + 1, o, e => by have := famAllF_at h.2 i o (by simpa using e); rwa [show k + 1 + i = k + (i + 1) by omega] at this

/-- The conditions, as a Bool: as famB's, edges that bind lead back, every operation but the floating ones is waited for ahead of the tail; the floating ones are apart from all that does not wait for them. -/
def famFB (ops : Array Oper) (n size : Nat) (D fl : List Nat) : Bool :=
  decide (n < ops.size) && Region.noSelect ops && decide ((List.range n).filterMap (famDst ops) = D) && D.all (fun d => decide (d < size)) &&
  (List.range n).all (fun i => (List.range n).all fun j => decide (i = j) || famDst ops i == none || decide (famDst ops i ≠ famDst ops j)) &&
  (List.range n).all (fun i => match ops[i]? with
    | some o => (o.looksAt ops).all (fun s => (List.range n).all fun j => !(famDst ops j == some s) || Region.waitsFor .any ops i j) && o.after.all (fun e => !Region.binds .any e || decide (e.on < i))
    | none => false) &&
  (List.range n).all (fun i => fl.contains i || (List.range (n + 1)).any fun j => decide (i < j) && !fl.contains j && Region.waitsFor .any ops j i) &&
  Region.chainB .any ops n &&
  fl.all (fun i => decide (i < n) && !allocAt ops i && Region.free .any ops (Array.ofFn fun k : Fin ops.size => decide (k.val < n) && !fl.contains k.val) i) &&
  Region.seqB .any ops (ops.size - n) n (Array.replicate n true ++ Array.replicate (ops.size - n) false)
structure FamCF (ops : Array Oper) (n size : Nat) (D fl : List Nat) : Prop where
  lt : n < ops.size
  sel : Region.noSelect ops = true
  lists : (List.range n).filterMap (famDst ops) = D
  within : ∀ d ∈ D, d < size
  apart : ∀ i j, i < n → j < n → i ≠ j → famDst ops i = none ∨ famDst ops i ≠ famDst ops j
  waits : ∀ i o, i < n → ops[i]? = some o → ∀ s ∈ o.looksAt ops, ∀ j, j < n → famDst ops j = some s → Region.waitsFor .any ops i j = true
  back : ∀ i o, i < n → ops[i]? = some o → ∀ e ∈ o.after, Region.binds .any e = true → e.on < i
  sink : ∀ i, i < n → fl.contains i = false → ∃ j, i < j ∧ j ≤ n ∧ fl.contains j = false ∧ Region.waitsFor .any ops j i = true
  chain : Region.chainB .any ops n = true
  float : ∀ i ∈ fl, i < n ∧ allocAt ops i = false ∧ Region.free .any ops (Array.ofFn fun k : Fin ops.size => decide (k.val < n) && !fl.contains k.val) i = true
  seq : Region.seqB .any ops (ops.size - n) n (Array.replicate n true ++ Array.replicate (ops.size - n) false) = true
theorem famFB_spec {ops : Array Oper} {n size : Nat} {D fl : List Nat} (h : famFB ops n size D fl = true) : FamCF ops n size D fl := by
  unfold famFB at h
  simp only [Bool.and_eq_true, Bool.or_eq_true, decide_eq_true_eq, List.all_eq_true, List.mem_range, List.any_eq_true] at h
  obtain ⟨⟨⟨⟨⟨⟨⟨⟨⟨h1, h2⟩, h3⟩, h4⟩, h5⟩, h6⟩, h7⟩, h8⟩, h9⟩, h10⟩ := h
  refine ⟨h1, h2, h3, h4, fun i j hi hj hij => ?_, fun i o hi ho s hs j hj hd => ?_, fun i o hi ho e he hb => ?_, fun i hi hf => ?_, h8, fun i hi => ?_, h10⟩
  · rcases h5 i hi j hj with (h | h) | h
    · exact absurd h hij
    · exact .inl (by simpa using h)
    · exact .inr h
  · have := h6 i hi
    rw [ho] at this
    simp only [Bool.and_eq_true, List.all_eq_true, List.mem_range, Bool.or_eq_true] at this
    rcases this.1 s hs j hj with h | h
    · simp [hd] at h
    · exact h
  · have := h6 i hi
    rw [ho] at this
    simp only [Bool.and_eq_true] at this
    have := Array.all_eq_true'.1 this.2 e he
    simpa [hb] using this
  · rcases h7 i hi with h | ⟨j, hj, h⟩
    · rw [h] at hf; cases hf
    · simp only [Bool.not_eq_true'] at h
      exact ⟨j, h.1.1, by omega, h.1.2, h.2⟩
  · have := h9 i hi
    exact ⟨this.1.1, by simpa using this.1.2, this.2⟩
theorem mem_DF {ops : Array Oper} {n size : Nat} {D fl : List Nat} (c : FamCF ops n size D fl) {d : Nat} : d ∈ D ↔ ∃ i, i < n ∧ famDst ops i = some d := by
  rw [← c.lists, List.mem_filterMap]
  simp only [List.mem_range]

/-- How things stand. -/
structure FInv (ops : Array Oper) (n : Nat) (D : List Nat) (Fs : List (Nat × StG)) (a0 : Act) (w0 : World) (listed : Array Bool) (a : Act) (w : World) : Prop where
  base : FamInv ops n D Fs a0 w0 listed a w
  fresh : ∀ i d, i < n → allocAt ops i = true → famDst ops i = some d → listed.getD i false = true → ∃ g, a.tmps.getD d undef = .pointer (some ⟨g, 0, none⟩) ∧ g < w.heap.size
  dist : ∀ i j d d', i < n → j < n → i ≠ j → allocAt ops i = true → allocAt ops j = true → famDst ops i = some d → famDst ops j = some d' → listed.getD i false = true → listed.getD j false = true → a.tmps.getD d undef ≠ a.tmps.getD d' undef

section
variable {P : Program} {ops : Array Oper} {n : Nat} {D fl : List Nat} {Fs : List (Nat × StG)} {a0 : Act} {w0 : World} {listed : Array Bool} {a : Act} {w : World} {Q : Exit → Act → World → Prop}
theorem FInv.facts (c : FamCF ops n a0.tmps.size D fl) (inv : FInv ops n D Fs a0 w0 listed a w) {i : Nat} {o : Oper} (ho : ops[i]? = some o) (hi : i < n) (hr : i ∈ Region.ready .any ops listed) :
    ∀ s ∈ o.looksAt ops, famAt D Fs a0 s ((fun t => a.tmps.getD t undef) s) w := fun s hs => by
  obtain ⟨_, o', ho', hall⟩ := mem_ready.1 hr
  obtain rfl : o' = o := Option.some.inj (ho'.symm.trans ho)
  unfold famAt
  by_cases hD : s ∈ D
  · rw [if_pos (by simpa using hD)]
    obtain ⟨j, hj, hd⟩ := (mem_DF c).1 hD
    obtain ⟨o2, ho2, e, he, hb, hon⟩ := Region.waitsFor_spec (c.waits i o' hi ho s hs j hj hd)
    obtain rfl : o2 = o' := Option.some.inj (ho2.symm.trans ho)
    have := hall e he hb
    rw [hon] at this
    exact inv.base.done j s hj hd this
  · rw [if_neg (by simpa using hD)]
    have := inv.base.rest s (fun j hj hd => absurd ((mem_DF c).2 ⟨j, hj, hd⟩) hD)
    simp only [Array.getD_eq_getD_getElem?, this]
theorem FInv.put (c : FamCF ops n a0.tmps.size D fl) (inv : FInv ops n D Fs a0 w0 listed a w) {i : Nat} {o : Oper} (ho : ops[i]? = some o) (hi : i < n) (hr : i ∈ Region.ready .any ops listed) {v : Value} {w' : World} (hg : Grows w w') (hv : ∀ d, o.dst = some d → famOf Fs d v w')
    (hal : isAlloc o = true → v = .pointer (some ⟨w.heap.size, 0, none⟩) ∧ w.heap.size < w'.heap.size) : FInv ops n D Fs a0 w0 (listed.setIfInBounds i true) (a.put o.dst v) w' := by
  have hlt : i < listed.size := by rw [inv.base.head.size]; exact (Array.getElem?_eq_some_iff.1 ho).1
  have hdst : famDst ops i = o.dst := by unfold famDst; rw [ho]; rfl
  have hai : allocAt ops i = isAlloc o := by unfold allocAt; rw [ho]
  have here : ∀ d, o.dst = some d → (a.put o.dst v).tmps.getD d undef = v := fun d hd => by
    have hD : d ∈ D := (mem_DF c).2 ⟨i, hi, by rw [hdst]; exact hd⟩
    have hs := c.within d hD
    rw [hd]; simp [Act.put, inv.base.size, hs]
  have there : ∀ j d, j < n → j ≠ i → famDst ops j = some d → (a.put o.dst v).tmps.getD d undef = a.tmps.getD d undef := fun j d hj hij hd => by
    cases hd' : o.dst with
    | none => rfl
    | some d' =>
      have hne : d' ≠ d := fun e => by
        subst e
        rcases c.apart j i hj hi hij with h | h
        · rw [hd] at h; cases h
        · exact h (by rw [hd, hdst, hd'])
      simp [Act.put, Array.getElem?_setIfInBounds_ne hne]
  have hsz := Below.size hg
  refine ⟨⟨inv.base.head.set hr hi, inv.base.grows.trans hg, ?_, ?_, fun j d hj hd hl => ?_, fun s hs => ?_⟩, fun j d hj ha hd hl => ?_, fun j k d d' hj hk hjk ha ha' hd hd' hl hl' => ?_⟩
  · rw [← inv.base.defers]; cases o.dst <;> rfl
  · rw [← inv.base.size]; cases o.dst <;> simp [Act.put]
  · by_cases hij : j = i
    · subst hij
      rw [hdst] at hd
      rw [here d hd]
      exact hv d hd
    · rw [getD_set_ne false (Ne.symm hij)] at hl
      rw [there j d hj hij hd]
      exact famOf_up Fs d hg (inv.base.done j d hj hd hl)
  · have hne : o.dst ≠ some s := fun e => by
      have := hs i hi (by rw [hdst]; exact e)
      simp [hlt] at this
    have h1 := inv.base.rest s (fun j hj hd => by
      have := hs j hj hd
      by_cases hij : i = j
      · subst hij; exact absurd (hdst ▸ hd) hne
      · rwa [getD_set_ne false hij] at this)
    rw [← h1]
    cases hd' : o.dst with
    | none => rfl
    | some d' => simp [Act.put, Array.getElem?_setIfInBounds_ne (fun e : d' = s => hne (by rw [hd', e]))]
  · by_cases hij : j = i
    · subst hij
      rw [hdst] at hd
      rw [here d hd]
      rw [hai] at ha
      exact ⟨_, (hal ha).1, (hal ha).2⟩
    · rw [getD_set_ne false (Ne.symm hij)] at hl
      rw [there j d hj hij hd]
      obtain ⟨g, h1, h2⟩ := inv.fresh j d hj ha hd hl
      exact ⟨g, h1, by omega⟩
  · by_cases hij : j = i
    · subst hij
      have hki : k ≠ j := Ne.symm hjk
      rw [getD_set_ne false (Ne.symm hki)] at hl'
      rw [hdst] at hd
      rw [here d hd, there k d' hk hki hd']
      rw [hai] at ha
      obtain ⟨g, h1, h2⟩ := inv.fresh k d' hk ha' hd' hl'
      rw [(hal ha).1, h1]
      intro e
      simp at e <;> omega
    · rw [getD_set_ne false (Ne.symm hij)] at hl
      rw [there j d hj hij hd]
      by_cases hik : k = i
      · subst hik
        rw [hdst] at hd'
        rw [here d' hd']
        rw [hai] at ha'
        obtain ⟨g, h1, h2⟩ := inv.fresh j d hj ha hd hl
        rw [(hal ha').1, h1]
        intro e
        simp at e <;> omega
      · rw [getD_set_ne false (Ne.symm hik)] at hl'
        rw [there k d' hk hik hd']
        exact inv.dist j k d d' hj hk hjk ha ha' hd hd' hl hl'
theorem FInv.step (c : FamCF ops n a0.tmps.size D fl) (inv : FInv ops n D Fs a0 w0 listed a w) {i : Nat} {o : Oper} (ho : ops[i]? = some o) (hi : i < n) (hr : i ∈ Region.ready .any ops listed) (hok : FamOkF P ops D Fs a0 w0 o) :
    wpOp P ops Q i (fun a' w' => FInv ops n D Fs a0 w0 (listed.setIfInBounds i true) a' w') a w := by
  have ok := hok (fun t => a.tmps.getD t undef) w inv.base.grows (inv.facts c ho hi hr)
  rw [famWants_eq, rho_eval] at ok
  unfold wpOp
  simp only [ho]
  split
  · rename_i hw
    refine .inl ?_
    have := ok.1 hw
    unfold Oper.wp
    generalize (execOp a.eval o).run P w = r at *
    cases r with
    | ok nx w' =>
      cases nx <;> simp only [famUpon] at this <;> simp only [Oper.upon]
      case value v => exact inv.put c ho hi hr this.1 this.2.1 this.2.2
      case skip => exact inv.put c ho hi hr this.1 this.2.1 this.2.2
      case enter f args =>
        refine this.mono fun e w'' he => ?_
        obtain ⟨v, rfl, h1, h2, h3⟩ := he
        exact inv.put c ho hi hr h1 h2 h3
    | halt x w' => simp only [famUpon] at this
  · rename_i hw
    have := ok.2 (by simpa using hw)
    exact inv.put c ho hi hr (Grows.refl w) this.1 (fun h => by rw [this.2] at h; cases h)
end

theorem fl_ok {P : Program} {ops : Array Oper} {D : List Nat} {Fs : List (Nat × StG)} {a0 : Act} {w0 : World} {o : Oper} (h : FamFl P ops D Fs a0 w0 o) (ha : isAlloc o = false) : FamOkF P ops D Fs a0 w0 o := fun f w hg hl => by
  obtain ⟨h1, v, h2, h3⟩ := h f w hg hl
  refine ⟨fun _ => ?_, fun h' => by rw [h1] at h'; cases h'⟩
  rw [h2 w]
  exact ⟨Grows.refl w, h3, fun h => by rw [ha] at h; cases h⟩

/-- While one that does not float is out, no operation of the tail comes up. -/
theorem tail_waitsF {ops : Array Oper} {n size : Nat} {D fl : List Nat} {listed : Array Bool} (c : FamCF ops n size D fl) (inv : HeadInv .any ops n listed) :
    ∀ (d i : Nat), n - i = d → i < n → fl.contains i = false → listed.getD i true = false → ∀ t, n ≤ t → t ∉ Region.ready .any ops listed := by
  intro d
  induction d using Nat.strongRecOn with
  | _ d ih =>
    intro i hd hi hfl hun t ht hr
    obtain ⟨_, ot, hot, hall⟩ := mem_ready.1 hr
    have htlt : t < ops.size := (Array.getElem?_eq_some_iff.1 hot).1
    by_cases htn : t = n
    · subst htn
      obtain ⟨j, hj1, hj2, hj3, hj4⟩ := c.sink i hi hfl
      obtain ⟨oj, hoj, e, he, hb, hon⟩ := Region.waitsFor_spec hj4
      by_cases hjt : j = t
      · subst hjt
        have : oj = ot := Option.some.inj (hoj.symm.trans hot)
        subst this
        have h2 := hall e he hb
        rw [hon, getD_both hun] at h2
        cases h2
      · cases hl : listed.getD j false with
        | true =>
          have h2 := inv.closed j oj hoj hl e he hb
          rw [hon, getD_both hun] at h2
          cases h2
        | false =>
          have hjs : j < listed.size := by rw [inv.size]; omega
          exact ih (t - j) (by omega) j rfl (by omega) hj3 (getD_in hjs hl) t (Nat.le_refl _) hr
    · have h1 := List.all_eq_true.1 c.chain t (List.mem_range.2 htlt)
      simp only [Bool.or_eq_true, decide_eq_true_eq] at h1
      rcases h1 with h1 | h1
      · omega
      · obtain ⟨o', ho', e, he, hb, hon⟩ := Region.waitsFor_spec h1
        have : o' = ot := Option.some.inj (ho'.symm.trans hot)
        subst this
        have h2 := hall e he hb
        rw [hon, getD_both (inv.tail (t - 1) (by omega) (by omega))] at h2
        cases h2

theorem famF_any {P : Program} {ops : Array Oper} {n : Nat} {D fl : List Nat} {Fs : List (Nat × StG)} {a0 : Act} {w0 : World} {Q : Exit → Act → World → Prop} (c : FamCF ops n a0.tmps.size D fl)
    (hQ : ∀ (x : List PanicEntry) (a : Act) (d : Option Tmp) (v : Value) (w : World), Q (.panic x) (a.put d v) w → Q (.panic x) a w)
    (hok : famAllF P ops D Fs a0 w0 fl 0 (ops.toList.take n))
    (hend : ∀ (u : Nat → Value) (w' : World), Grows w0 w' → (∀ s ∈ D, famOf Fs s (u s) w') → (∀ i j d d', i < n → j < n → i ≠ j → allocAt ops i = true → allocAt ops j = true → famDst ops i = some d → famDst ops j = some d' → u d ≠ u d') → wpList P ops Q (ops.toList.drop n) (fill u D a0) w') :
    ∀ (k : Nat) (listed : Array Bool) (a : Act) (w : World), unl listed n = k → FInv ops n D Fs a0 w0 listed a w → wpAny P .any ops Q (k + (ops.size - n)) listed a w := by
  have at' : ∀ i o, i < n → ops[i]? = some o → if fl.contains i then FamFl P ops D Fs a0 w0 o else FamOkF P ops D Fs a0 w0 o := fun i o hi ho => by
    have := famAllF_at hok i o (by simp [hi, ho])
    rwa [Nat.zero_add] at this
  have all : ∀ i o, i < n → ops[i]? = some o → FamOkF P ops D Fs a0 w0 o := fun i o hi ho => by
    have := at' i o hi ho
    split at this
    · next h =>
      refine fl_ok this ?_
      have := (c.float i (by simpa using h)).2.1
      unfold allocAt at this
      rw [ho] at this
      exact this
    · exact this
  intro k
  induction k with
  | zero =>
    intro listed a w hk inv
    have hl := unl_zero hk
    have hlt := c.lt
    have e : listed = Array.replicate n true ++ Array.replicate (ops.size - n) false := by
      refine Array.ext_getElem? fun i => ?_
      have hs := inv.base.head.size
      rcases Nat.lt_or_ge i n with h | h
      · have := hl i h
        rw [Array.getElem?_append_left (by simpa using h)]
        have h2 : i < listed.size := by omega
        simp [h2] at this
        simp [h2, this, h]
      · rw [Array.getElem?_append_right (by simpa using h)]
        rcases Nat.lt_or_ge i ops.size with h2 | h2
        · have := inv.base.head.tail i h h2
          have h3 : i < listed.size := by omega
          simp [h3] at this
          have h4 : i - n < ops.size - n := by omega
          simp [h3, this, h4]
        · rw [Array.getElem?_eq_none (by omega)]
          simp; omega
    have ha : a = fill (fun s => a.tmps.getD s undef) D a0 := by
      refine act_ext (by rw [fill_defers, inv.base.defers]) fun s => ?_
      rw [fill_get]
      by_cases hD : s ∈ D
      · have := c.within s hD
        rw [if_pos ⟨hD, this⟩]
        have h2 : s < a.tmps.size := by rw [inv.base.size]; exact this
        simp [h2]
      · rw [if_neg (fun h => hD h.1)]
        exact inv.base.rest s fun i hi hd => absurd ((mem_DF c).2 ⟨i, hi, hd⟩) hD
    have H := hend (fun s => a.tmps.getD s undef) w inv.base.grows (fun s hs => by
      obtain ⟨i, hi, hd⟩ := (mem_DF c).1 hs
      exact inv.base.done i s hi hd (hl i hi)) (fun i j d d' hi hj hij ha1 ha2 hd hd' => inv.dist i j d d' hi hj hij ha1 ha2 hd hd' (hl i hi) (hl j hj))
    rw [← ha] at H
    rw [Nat.zero_add]
    have hlen : (ops.toList.drop n).length = ops.size - n := by simp
    have := wpAny_of_seq (md := .any) (Q' := Q) (ops := ops) (P := P) (ops.toList.drop n) n listed a w (fun j => by simp [List.getElem?_drop]) (by rw [hlen, e]; exact c.seq) H
    rwa [hlen] at this
  | succ k ih =>
    intro listed a w hk inv
    obtain ⟨i, hi, hf, hall⟩ := unl_least (listed := listed) (n := n) (by omega)
    have hs := inv.base.head.size
    have hlt := c.lt
    have hio : i < ops.size := by omega
    have hoi : ops[i]? = some ops[i] := by simp [hio]
    have hri : i ∈ Region.ready .any ops listed := mem_ready.2 ⟨getD_in (by omega) hf, ops[i], hoi, fun e he hb => hall _ (c.back i _ hi hoi e he hb)⟩
    rw [show k + 1 + (ops.size - n) = (k + (ops.size - n)) + 1 by omega]
    by_cases hfl : ∃ j, j < n ∧ fl.contains j = false ∧ listed.getD j true = false
    · obtain ⟨j0, hj0, hf0, hu0⟩ := hfl
      have hlow : ∀ j ∈ Region.ready .any ops listed, j < n := fun j hj => by
        rcases Nat.lt_or_ge j n with h | h
        · exact h
        · exact absurd hj (tail_waitsF c inv.base.head _ j0 rfl hj0 hf0 hu0 j h)
      refine ⟨fun h => (by rw [h] at hri; cases hri), fun j hj => ?_⟩
      obtain ⟨hun, o, ho, _⟩ := mem_ready.1 hj
      have hjn := hlow j hj
      have hjs : j < listed.size := by rw [hs]; exact (Array.getElem?_eq_some_iff.1 ho).1
      refine wpOp_mono (fun a' w' inv' => ih _ a' w' ?_ inv') (inv.step c ho hjn hj (all j o hjn ho))
      have := unl_set hjs (getD_both hun) (n := n)
      rw [if_pos hjn] at this
      omega
    · have hifl : fl.contains i = true := by
        cases e : fl.contains i with
        | true => rfl
        | false => exact absurd ⟨i, hi, e, getD_in (by omega) hf⟩ hfl
      have hfo := at' i _ hi hoi
      rw [if_pos hifl] at hfo
      obtain ⟨hw, v, hv1, hv2⟩ := hfo (fun t => a.tmps.getD t undef) w inv.base.grows (inv.facts c hoi hi hri)
      rw [famWants_eq] at hw
      rw [rho_eval] at hv1
      obtain ⟨_, hal, hfree⟩ := c.float i (by simpa using hifl)
      have hal' : isAlloc ops[i] = false := by unfold allocAt at hal; simpa [hio] using hal
      have inv' := inv.put c hoi hi hri (Grows.refl w) hv2 (fun h => by rw [hal'] at h; cases h)
      have hks : i < listed.size := by omega
      have hk' : unl (listed.setIfInBounds i true) n = k := by
        have := unl_set hks hf (n := n)
        rw [if_pos hi] at this
        omega
      refine wpAny_first hoi (Region.noSelect_spec c.sel) (fun x a' w' => hQ x a' _ _ w') _ listed a w (fun j oj hj hne hun hno => ?_) hri (.inl ⟨hw, hv1⟩) (ih _ _ w hk' inv')
      refine Region.free_spec hoi hfree j oj hj hne ?_ hno
      have hjs : j < ops.size := (Array.getElem?_eq_some_iff.1 hj).1
      have hmin : ((Array.ofFn fun k : Fin ops.size => decide (k.val < n) && !fl.contains k.val).getD j true) = (decide (j < n) && !fl.contains j) := by simp [hjs]
      rw [hmin]
      cases e : fl.contains j with
      | true => simp
      | false =>
        rcases Nat.lt_or_ge j n with h | h
        · exact absurd ⟨j, h, e, hun⟩ hfl
        · simp; omega

/-- THE LAW: as wp_fam; fl: the operations that float; what is allotted is apart. -/
theorem wp_famF {P : Program} {id n size : Nat} {l : List Oper} {D : List Nat} {a : Act} {w : World} {Q : Exit → Act → World → Prop} (fl : List Nat) (Fs : List (Nat × StG)) (hm : P.follows .mixedOrders = true) (hs : a.tmps.size = size) (hB : famFB l.toArray n size D fl = true)
    (hQ : ∀ (x : List PanicEntry) (a : Act) (d : Option Tmp) (v : Value) (w : World), Q (.panic x) (a.put d v) w → Q (.panic x) a w)
    (hok : famAllF P l.toArray D Fs a w fl 0 (l.take n))
    (hend : ∀ (u : Nat → Value) (w' : World), Grows w w' → (∀ s ∈ D, famOf Fs s (u s) w') → (∀ i j d d', i < n → j < n → i ≠ j → allocAt l.toArray i = true → allocAt l.toArray j = true → famDst l.toArray i = some d → famDst l.toArray j = some d' → u d ≠ u d') → wpList P l.toArray Q (l.drop n) (fill u D a) w') : (Code.region id l.toArray true).wp P Q a w := by
  subst hs
  have c := famFB_spec hB
  refine wp_region_any hm ?_
  have inv0 : FInv l.toArray n D Fs a w (Array.replicate l.toArray.size false) a { w with drawn := w.drawn + 1 } :=
    ⟨⟨⟨by simp, fun j oj _ hl => (by rw [getD_replicate_false] at hl; cases hl), fun t _ ht => getD_in (by simpa using ht) (getD_replicate_false _ _)⟩,
      Grows.drew w 1, rfl, rfl, fun i d _ _ hl => (by rw [getD_replicate_false] at hl; cases hl), fun s _ => rfl⟩, fun i d _ _ _ hl => (by rw [getD_replicate_false] at hl; cases hl), fun i j d d' _ _ _ _ _ _ _ hl => (by rw [getD_replicate_false] at hl; cases hl)⟩
  have := famF_any (Q := Q) c hQ hok hend n _ a _ (unl_start _ n) inv0
  rwa [show n + (l.toArray.size - n) = l.toArray.size by have := c.lt; omega] at this
end Go.Proofs.Ytfllebfegngdhaa
end

section
namespace Go.Proofs.Ytfllebfegngdhaa
set_option linter.unusedVariables false
set_option linter.unusedSimpArgs false
open Go.RowKit

/-- A block that operation al makes (its address in temporary d) and operation st fills. -/
structure Made where
  st : Nat
  al : Nat
  d : Nat
  t : TypeId
  ini : Array Value
  fin : Array Value
def Made.key (m : Made) : Nat × Nat × Nat := (m.st, m.al, m.d)

/-- The conditions, as a Bool. -/
def famXB (ops : Array Oper) (size : Nat) (D : List Nat) (Ks : List (Nat × Nat × Nat)) : Bool :=
  decide ((List.range ops.size).filterMap (famDst ops) = D) && D.all (fun d => decide (d < size)) &&
  (List.range ops.size).all (fun i => (List.range ops.size).all fun j => decide (i = j) || famDst ops i == none || decide (famDst ops i ≠ famDst ops j)) &&
  (List.range ops.size).all (fun i => match ops[i]? with
    | some o => (o.looksAt ops).all (fun s => (List.range ops.size).all fun j => !(famDst ops j == some s) || Region.waitsFor .any ops i j) && o.after.all (fun e => !Region.binds .any e || decide (e.on < i))
    | none => false) &&
  Ks.all (fun k => decide (k.1 < ops.size) && decide (k.2.1 < ops.size) && decide (famDst ops k.2.1 = some k.2.2) && decide (famDst ops k.1 = none) && Region.waitsFor .any ops k.1 k.2.1 && Ks.all fun k' => decide (k.2.1 = k'.2.1) || decide (k.1 ≠ k'.1)) &&
  decide ((Ks.map (·.2.1)).Nodup) &&
  Region.seqB .any ops (ops.size - ops.size) ops.size (Array.replicate ops.size true ++ Array.replicate (ops.size - ops.size) false)
structure FamCX (ops : Array Oper) (size : Nat) (D : List Nat) (Ks : List (Nat × Nat × Nat)) : Prop where
  lists : (List.range ops.size).filterMap (famDst ops) = D
  within : ∀ d ∈ D, d < size
  apart : ∀ i j, i < ops.size → j < ops.size → i ≠ j → famDst ops i = none ∨ famDst ops i ≠ famDst ops j
  waits : ∀ i o, i < ops.size → ops[i]? = some o → ∀ s ∈ o.looksAt ops, ∀ j, j < ops.size → famDst ops j = some s → Region.waitsFor .any ops i j = true
  back : ∀ i o, i < ops.size → ops[i]? = some o → ∀ e ∈ o.after, Region.binds .any e = true → e.on < i
  made : ∀ k ∈ Ks, k.1 < ops.size ∧ k.2.1 < ops.size ∧ famDst ops k.2.1 = some k.2.2 ∧ famDst ops k.1 = none ∧ Region.waitsFor .any ops k.1 k.2.1 = true ∧ ∀ k' ∈ Ks, k.2.1 = k'.2.1 ∨ k.1 ≠ k'.1
  uniq : (Ks.map (·.2.1)).Nodup
  seq : Region.seqB .any ops (ops.size - ops.size) ops.size (Array.replicate ops.size true ++ Array.replicate (ops.size - ops.size) false) = true
theorem famXB_spec {ops : Array Oper} {size : Nat} {D : List Nat} {Ks : List (Nat × Nat × Nat)} (h : famXB ops size D Ks = true) : FamCX ops size D Ks := by
  unfold famXB at h
  simp only [Bool.and_eq_true, Bool.or_eq_true, decide_eq_true_eq, List.all_eq_true, List.mem_range] at h
  obtain ⟨⟨⟨⟨⟨⟨h3, h4⟩, h5⟩, h6⟩, h7⟩, h8⟩, h10⟩ := h
  refine ⟨h3, h4, fun i j hi hj hij => ?_, fun i o hi ho s hs j hj hd => ?_, fun i o hi ho e he hb => ?_, fun k hk => ?_, h8, h10⟩
  · rcases h5 i hi j hj with (h | h) | h
    · exact absurd h hij
    · exact .inl (by simpa using h)
    · exact .inr h
  · have := h6 i hi
    rw [ho] at this
    simp only [Bool.and_eq_true, List.all_eq_true, List.mem_range, Bool.or_eq_true] at this
    rcases this.1 s hs j hj with h | h
    · simp [hd] at h
    · exact h
  · have := h6 i hi
    rw [ho] at this
    simp only [Bool.and_eq_true] at this
    have := Array.all_eq_true'.1 this.2 e he
    simpa [hb] using this
  · obtain ⟨⟨⟨⟨⟨a1, a2⟩, a3⟩, a4⟩, a5⟩, a6⟩ := h7 k hk
    exact ⟨a1, a2, a3, a4, a5, a6⟩
theorem mem_DX {ops : Array Oper} {size : Nat} {D : List Nat} {Ks : List (Nat × Nat × Nat)} (c : FamCX ops size D Ks) {d : Nat} : d ∈ D ↔ ∃ i, i < ops.size ∧ famDst ops i = some d := by
  rw [← c.lists, List.mem_filterMap]
  simp only [List.mem_range]

theorem made_uniq : ∀ {Ms : List Made}, ((Ms.map Made.key).map (·.2.1)).Nodup → ∀ {m m' : Made}, m ∈ Ms → m' ∈ Ms → m.al = m'.al → m = m'
  | [], _, m, m', h, _, _ => by simp at h
  | x :: l, hn, m, m', h, h', e => by
    simp only [List.map_cons, List.nodup_cons] at hn
    have no : ∀ q ∈ l, q.al ≠ x.al := fun q hq e => hn.1 (by simp only [List.mem_map]; exact ⟨q.key, ⟨q, hq, rfl⟩, e⟩)
    rcases List.mem_cons.1 h with rfl | h1
    · rcases List.mem_cons.1 h' with rfl | h2
      · rfl
      · exact absurd e.symm (no m' h2)
    · rcases List.mem_cons.1 h' with rfl | h2
      · exact absurd e (no m h1)
      · exact made_uniq hn.2 h1 h2 e

/-- What may become of the world. -/
structure RelX (R : World → World → Prop) (w0 : World) (Ms : List Made) : Prop where
  pre : Pre R
  grows : ∀ {w w'}, R w0 w → Grows w w' → R w w'
  fills : ∀ {w w' g m}, m ∈ Ms → R w0 w → w0.heap.size ≤ g → Blo w g m.t m.ini → w.grownBy w' (some g) → R w w'
  below : ∀ {w}, R w0 w → Below w0.heap.size w0 w

section
variable {R : World → World → Prop} (P : Program) (ops : Array Oper) (D : List Nat) (Fs : List (Nat × StR R)) (a0 : Act) (w0 : World)
def FamXOk (o : Oper) : Prop :=
  ∀ (f : Nat → Value) (w : World), R w0 w → (∀ s ∈ o.looksAt ops, famAt D Fs a0 s (f s) w) →
    (famWants ops o f = true → famUpon P (fun v w' => Grows w w' ∧ ∀ d, o.dst = some d → famOf Fs d v w') ((execOp (rho f) o).run P w)) ∧
    (famWants ops o f = false → ∀ d, o.dst = some d → famOf Fs d undef w)
def FamXAl (m : Made) (o : Oper) : Prop :=
  ∀ (f : Nat → Value) (w : World), R w0 w → famWants ops o f = true ∧ (execOp (rho f) o).run P w = .ok (.value (.pointer (some ⟨w.heap.size, 0, none⟩))) (w.alloc (.cells m.ini m.t)) ∧ ∀ d, o.dst = some d → ∀ v w', famOf Fs d v w'
def FamXSt (m : Made) (o : Oper) : Prop :=
  ∀ (f : Nat → Value) (w : World) (g : Nat), R w0 w → (∀ s ∈ o.looksAt ops, famAt D Fs a0 s (f s) w) → f m.d = .pointer (some ⟨g, 0, none⟩) → Blo w g m.t m.ini → famWants ops o f = true ∧ famUpon P (fun _ w' => w.grownBy w' (some g) ∧ Blo w' g m.t m.fin) ((execOp (rho f) o).run P w)
def obX : List Made → Nat → Oper → Prop
  | [], _, o => FamXOk P ops D Fs a0 w0 o
  | m :: l, k, o => if m.st = k then FamXSt P ops D Fs a0 w0 m o else if m.al = k then FamXAl P ops Fs w0 m o else obX l k o
def famAllX (Ms : List Made) : Nat → List Oper → Prop
  | _, [] => True
  | k, o :: l => obX P ops D Fs a0 w0 Ms k o ∧ famAllX Ms (k + 1) l
end
theorem famAllX_at {R : World → World → Prop} {P : Program} {ops : Array Oper} {D : List Nat} {Fs : List (Nat × StR R)} {a0 : Act} {w0 : World} {Ms : List Made} : ∀ {l : List Oper} {k : Nat}, famAllX P ops D Fs a0 w0 Ms k l → ∀ (i : Nat) (o : Oper), l[i]? = some o → obX P ops D Fs a0 w0 Ms (k + i) o
  | [], _, _, i, o, h => by simp at h
  | x :: l, k, h, 0, o, e => by simp at e; subst e; exact h.1
  | x :: l, k, h, i + 1, o, e => by have := famAllX_at h.2 i o (by simpa using e); rwa [show k + 1 + i = k + (i + 1) by omega] at this
/-- Which of the three. -/
theorem obX_cases {R : World → World → Prop} {P : Program} {ops : Array Oper} {D : List Nat} {Fs : List (Nat × StR R)} {a0 : Act} {w0 : World} : ∀ {Ms : List Made} {k : Nat} {o : Oper}, obX P ops D Fs a0 w0 Ms k o →
    (∃ m ∈ Ms, m.st = k ∧ FamXSt P ops D Fs a0 w0 m o) ∨ (∃ m ∈ Ms, m.al = k ∧ FamXAl P ops Fs w0 m o) ∨ ((∀ m ∈ Ms, m.st ≠ k ∧ m.al ≠ k) ∧ FamXOk P ops D Fs a0 w0 o)
  | [], k, o, h => .inr (.inr ⟨by simp, h⟩)
  | m :: l, k, o, h => by
    unfold obX at h
    split at h
    · exact .inl ⟨m, by simp, by assumption, h⟩
    · split at h
      · exact .inr (.inl ⟨m, by simp, by assumption, h⟩)
      · rcases obX_cases h with ⟨m', h1, h2⟩ | ⟨m', h1, h2⟩ | ⟨h1, h2⟩
        · exact .inl ⟨m', by simp [h1], h2⟩
        · exact .inr (.inl ⟨m', by simp [h1], h2⟩)
        · refine .inr (.inr ⟨fun m' hm => ?_, h2⟩)
          rcases List.mem_cons.1 hm with rfl | hm
          · exact ⟨by assumption, by assumption⟩
          · exact h1 m' hm

/-- How things stand. -/
structure XInv {R : World → World → Prop} (ops : Array Oper) (D : List Nat) (Fs : List (Nat × StR R)) (Ms : List Made) (a0 : Act) (w0 : World) (listed : Array Bool) (a : Act) (w : World) : Prop where
  base : FamInv ops ops.size D Fs a0 w0 listed a w
  made : ∀ m ∈ Ms, listed.getD m.al false = true → ∃ g, a.tmps.getD m.d undef = .pointer (some ⟨g, 0, none⟩) ∧ w0.heap.size ≤ g ∧ Blo w g m.t (if listed.getD m.st false then m.fin else m.ini)
  dist : ∀ m ∈ Ms, ∀ m' ∈ Ms, m.al ≠ m'.al → listed.getD m.al false = true → listed.getD m'.al false = true → a.tmps.getD m.d undef ≠ a.tmps.getD m'.d undef

section
variable {R : World → World → Prop} {P : Program} {ops : Array Oper} {D : List Nat} {Fs : List (Nat × StR R)} {Ms : List Made} {a0 : Act} {w0 : World} {listed : Array Bool} {a : Act} {w : World} {Q : Exit → Act → World → Prop}
theorem XInv.put (hR : Pre R) (c : FamCX ops a0.tmps.size D (Ms.map Made.key)) (inv : FamInv ops ops.size D Fs a0 w0 listed a w) {i : Nat} {o : Oper} (ho : ops[i]? = some o) (hi : i < ops.size) (hr : i ∈ Region.ready .any ops listed) {v : Value} {w' : World} (hg : R w w') (hv : ∀ d, o.dst = some d → famOf Fs d v w') :
    FamInv ops ops.size D Fs a0 w0 (listed.setIfInBounds i true) (a.put o.dst v) w' ∧ (∀ d, o.dst = some d → (a.put o.dst v).tmps.getD d undef = v) ∧ (∀ j d, j < ops.size → j ≠ i → famDst ops j = some d → (a.put o.dst v).tmps.getD d undef = a.tmps.getD d undef) := by
  have hlt : i < listed.size := by rw [inv.head.size]; exact hi
  have hdst : famDst ops i = o.dst := by unfold famDst; rw [ho]; rfl
  have here : ∀ d, o.dst = some d → (a.put o.dst v).tmps.getD d undef = v := fun d hd => by
    have hD : d ∈ D := (mem_DX c).2 ⟨i, hi, by rw [hdst]; exact hd⟩
    have hs := c.within d hD
    rw [hd]; simp [Act.put, inv.size, hs]
  have there : ∀ j d, j < ops.size → j ≠ i → famDst ops j = some d → (a.put o.dst v).tmps.getD d undef = a.tmps.getD d undef := fun j d hj hij hd => by
    cases hd' : o.dst with
    | none => rfl
    | some d' =>
      have hne : d' ≠ d := fun e => by
        subst e
        rcases c.apart j i hj hi hij with h | h
        · rw [hd] at h; cases h
        · exact h (by rw [hd, hdst, hd'])
      simp [Act.put, Array.getElem?_setIfInBounds_ne hne]
  refine ⟨⟨inv.head.set hr hi, hR.trans inv.grows hg, ?_, ?_, fun j d hj hd hl => ?_, fun s hs => ?_⟩, here, there⟩
  · rw [← inv.defers]; cases o.dst <;> rfl
  · rw [← inv.size]; cases o.dst <;> simp [Act.put]
  · by_cases hij : j = i
    · subst hij
      rw [hdst] at hd
      rw [here d hd]
      exact hv d hd
    · rw [getD_set_ne false (Ne.symm hij)] at hl
      rw [there j d hj hij hd]
      exact famOf_up Fs d hg (inv.done j d hj hd hl)
  · have hne : o.dst ≠ some s := fun e => by
      have := hs i hi (by rw [hdst]; exact e)
      simp [hlt] at this
    have h1 := inv.rest s (fun j hj hd => by
      have := hs j hj hd
      by_cases hij : i = j
      · subst hij; exact absurd (hdst ▸ hd) hne
      · rwa [getD_set_ne false hij] at this)
    rw [← h1]
    cases hd' : o.dst with
    | none => rfl
    | some d' => simp [Act.put, Array.getElem?_setIfInBounds_ne (fun e : d' = s => hne (by rw [hd', e]))]
theorem XInv.step (hX : RelX R w0 Ms) (c : FamCX ops a0.tmps.size D (Ms.map Made.key)) (inv : XInv ops D Fs Ms a0 w0 listed a w) {i : Nat} {o : Oper} (ho : ops[i]? = some o) (hi : i < ops.size) (hr : i ∈ Region.ready .any ops listed) (hok : obX P ops D Fs a0 w0 Ms i o) :
    wpOp P ops Q i (fun a' w' => XInv ops D Fs Ms a0 w0 (listed.setIfInBounds i true) a' w') a w := by
  obtain ⟨hun, o', ho', hall⟩ := mem_ready.1 hr
  obtain rfl : o' = o := Option.some.inj (ho'.symm.trans ho)
  have hlt : i < listed.size := by rw [inv.base.head.size]; exact hi
  have hdst : famDst ops i = o'.dst := by unfold famDst; rw [ho]; rfl
  have hfi : listed.getD i false = false := getD_both hun
  have facts : ∀ s ∈ o'.looksAt ops, famAt D Fs a0 s ((fun t => a.tmps.getD t undef) s) w := fun s hs => by
    unfold famAt
    by_cases hD : s ∈ D
    · rw [if_pos (by simpa using hD)]
      obtain ⟨j, hj, hd⟩ := (mem_DX c).1 hD
      obtain ⟨o2, ho2, e, he, hb, hon⟩ := Region.waitsFor_spec (c.waits i o' hi ho s hs j hj hd)
      obtain rfl : o2 = o' := Option.some.inj (ho2.symm.trans ho)
      have := hall e he hb
      rw [hon] at this
      exact inv.base.done j s hj hd this
    · rw [if_neg (by simpa using hD)]
      have := inv.base.rest s (fun j hj hd => absurd ((mem_DX c).2 ⟨j, hj, hd⟩) hD)
      simp only [Array.getD_eq_getD_getElem?, this]
  have key : ∀ m ∈ Ms, m.st < ops.size ∧ m.al < ops.size ∧ famDst ops m.al = some m.d ∧ famDst ops m.st = none ∧ Region.waitsFor .any ops m.st m.al = true ∧ ∀ m' ∈ Ms, m.al = m'.al ∨ m.st ≠ m'.st := fun m hm => by
    obtain ⟨h1, h2, h3, h4, h5, h6⟩ := c.made m.key (List.mem_map.2 ⟨m, hm, rfl⟩)
    exact ⟨h1, h2, h3, h4, h5, fun m' hm' => h6 m'.key (List.mem_map.2 ⟨m', hm', rfl⟩)⟩
  have hb0 := hX.below inv.base.grows
  -- an operation of no block
  have plain : (∀ m ∈ Ms, m.st ≠ i ∧ m.al ≠ i) → ∀ v w', Grows w w' → (∀ d, o'.dst = some d → famOf Fs d v w') → XInv ops D Fs Ms a0 w0 (listed.setIfInBounds i true) (a.put o'.dst v) w' := fun hno v w' hg hv => by
    obtain ⟨h1, h2, h3⟩ := XInv.put hX.pre c inv.base ho hi hr (hX.grows inv.base.grows hg) hv
    refine ⟨h1, fun m hm hl => ?_, fun m hm m' hm' hne hl hl' => ?_⟩
    · obtain ⟨k1, k2, k3, k4, k5, k6⟩ := key m hm
      obtain ⟨n1, n2⟩ := hno m hm
      rw [getD_set_ne false (Ne.symm n2)] at hl
      obtain ⟨g, e1, e2, e3⟩ := inv.made m hm hl
      rw [getD_set_ne false (Ne.symm n1), h3 m.al m.d k2 n2 k3]
      exact ⟨g, e1, e2, e3.new hg⟩
    · obtain ⟨k1, k2, k3, _⟩ := key m hm
      obtain ⟨k1', k2', k3', _⟩ := key m' hm'
      rw [getD_set_ne false (Ne.symm (hno m hm).2)] at hl
      rw [getD_set_ne false (Ne.symm (hno m' hm').2)] at hl'
      rw [h3 m.al m.d k2 (hno m hm).2 k3, h3 m'.al m'.d k2' (hno m' hm').2 k3']
      exact inv.dist m hm m' hm' hne hl hl'
  rcases obX_cases hok with ⟨m, hm, hmi, hst⟩ | ⟨m, hm, hmi, hal⟩ | ⟨hno, hpl⟩
  · -- a block is filled
    subst hmi
    obtain ⟨k1, k2, k3, k4, k5, k6⟩ := key m hm
    obtain ⟨o2, ho2, e, he, hb, hon⟩ := Region.waitsFor_spec k5
    obtain rfl : o2 = o' := Option.some.inj (ho2.symm.trans ho)
    have hlal : listed.getD m.al false = true := by have := hall e he hb; rw [hon] at this; exact this
    obtain ⟨g, e1, e2, e3⟩ := inv.made m hm hlal
    rw [hfi] at e3
    obtain ⟨hw, hup⟩ := hst (fun t => a.tmps.getD t undef) w g inv.base.grows facts e1 e3
    rw [famWants_eq] at hw
    rw [rho_eval] at hup
    have hnd : o2.dst = none := by rw [← hdst]; exact k4
    have after : ∀ v w', w.grownBy w' (some g) → Blo w' g m.t m.fin → XInv ops D Fs Ms a0 w0 (listed.setIfInBounds m.st true) (a.put o2.dst v) w' := fun v w' hg hB => by
      have hRr := hX.fills hm inv.base.grows e2 e3 hg
      obtain ⟨h1, h2, h3⟩ := XInv.put hX.pre c inv.base ho hi hr hRr (v := v) (fun d hd => by rw [hnd] at hd; cases hd)
      have hsame : ∀ d, (a.put o2.dst v).tmps.getD d undef = a.tmps.getD d undef := fun d => by rw [hnd]; rfl
      refine ⟨h1, fun m' hm' hl => ?_, fun m' hm' m'' hm'' hne hl hl' => ?_⟩
      · obtain ⟨k1', k2', k3', k4', k5', k6'⟩ := key m' hm'
        have hne1 : m.st ≠ m'.al := fun e => by rw [show famDst ops m'.al = none from e ▸ k4] at k3'; cases k3'
        rw [getD_set_ne false hne1] at hl
        rw [hsame]
        by_cases hal : m'.al = m.al
        · obtain rfl := made_uniq c.uniq hm' hm hal
          rw [e1]
          refine ⟨g, rfl, e2, ?_⟩
          rw [if_pos (by simp [hlt])]
          exact hB
        · obtain ⟨g', f1, f2, f3⟩ := inv.made m' hm' hl
          have hgg : g' ≠ g := fun e => inv.dist m' hm' m hm hal hl hlal (by rw [f1, e1, e])
          have hst' : m.st ≠ m'.st := by
            rcases k6 m' hm' with h | h
            · exact absurd h.symm hal
            · exact h
          rw [getD_set_ne false hst']
          exact ⟨g', f1, f2, f3.grown hg (fun e => hgg (by injection e))⟩
      · obtain ⟨_, _, k3', _⟩ := key m' hm'
        obtain ⟨_, _, k3'', _⟩ := key m'' hm''
        have hne1 : m.st ≠ m'.al := fun e => by rw [show famDst ops m'.al = none from e ▸ k4] at k3'; cases k3'
        have hne2 : m.st ≠ m''.al := fun e => by rw [show famDst ops m''.al = none from e ▸ k4] at k3''; cases k3''
        rw [getD_set_ne false hne1] at hl
        rw [getD_set_ne false hne2] at hl'
        rw [hsame, hsame]
        exact inv.dist m' hm' m'' hm'' hne hl hl'
    unfold wpOp
    simp only [ho]
    rw [if_pos hw]
    refine .inl ?_
    unfold Oper.wp
    generalize (execOp a.eval o2).run P w = r at *
    cases r with
    | ok nx w' =>
      cases nx <;> simp only [famUpon] at hup <;> simp only [Oper.upon]
      case value v => exact after v w' hup.1 hup.2
      case skip => exact after undef w' hup.1 hup.2
      case enter f args =>
        refine hup.mono fun e w'' he => ?_
        obtain ⟨v, rfl, h1, h2⟩ := he
        exact after v w'' h1 h2
    | halt x w' => simp only [famUpon] at hup
  · -- a block is made
    subst hmi
    obtain ⟨k1, k2, k3, k4, k5, k6⟩ := key m hm
    obtain ⟨hw, hrun, hf⟩ := hal (fun t => a.tmps.getD t undef) w inv.base.grows
    rw [famWants_eq] at hw
    rw [rho_eval] at hrun
    have hg : Grows w (w.alloc (.cells m.ini m.t)) := Grows.alloc w _
    obtain ⟨h1, h2, h3⟩ := XInv.put hX.pre c inv.base ho hi hr (hX.grows inv.base.grows hg) (v := .pointer (some ⟨w.heap.size, 0, none⟩)) (fun d hd => hf d hd _ _)
    have hdm : o'.dst = some m.d := by rw [← hdst]; exact k3
    have hst0 : listed.getD m.st false = false := by
      cases e : listed.getD m.st false with
      | false => rfl
      | true =>
        obtain ⟨o2, ho2, ed, he, hb, hon⟩ := Region.waitsFor_spec k5
        have := inv.base.head.closed m.st o2 ho2 e ed he hb
        rw [hon] at this
        rw [show listed.getD m.al false = true from this] at hfi; cases hfi
    have other : ∀ m' ∈ Ms, m'.al ≠ m.al → (a.put o'.dst (.pointer (some ⟨w.heap.size, 0, none⟩))).tmps.getD m'.d undef = a.tmps.getD m'.d undef := fun m' hm' hne => by
      obtain ⟨_, k2', k3', _⟩ := key m' hm'
      exact h3 m'.al m'.d k2' hne k3'
    have X : XInv ops D Fs Ms a0 w0 (listed.setIfInBounds m.al true) (a.put o'.dst (.pointer (some ⟨w.heap.size, 0, none⟩))) (w.alloc (.cells m.ini m.t)) := by
      refine ⟨h1, fun m' hm' hl => ?_, fun m' hm' m'' hm'' hne hl hl' => ?_⟩
      · obtain ⟨k1', k2', k3', k4', k5', k6'⟩ := key m' hm'
        by_cases hal : m'.al = m.al
        · obtain rfl := made_uniq c.uniq hm' hm hal
          have hne1 : m'.al ≠ m'.st := fun e => by rw [show famDst ops m'.al = none from e ▸ k4] at k3; cases k3
          rw [h2 m'.d hdm, getD_set_ne false hne1, hst0]
          exact ⟨w.heap.size, rfl, hb0.size, Blo.made _ _ _⟩
        · rw [getD_set_ne false (Ne.symm hal)] at hl
          obtain ⟨g', f1, f2, f3⟩ := inv.made m' hm' hl
          have hne1 : m.al ≠ m'.st := fun e => by rw [show famDst ops m.al = none from e ▸ k4'] at k3; cases k3
          rw [other m' hm' hal, getD_set_ne false hne1]
          exact ⟨g', f1, f2, f3.alloc _⟩
      · have old : ∀ q ∈ Ms, q.al ≠ m.al → (listed.setIfInBounds m.al true).getD q.al false = true → ∃ g, a.tmps.getD q.d undef = .pointer (some ⟨g, 0, none⟩) ∧ g < w.heap.size := fun q hq hne' hlq => by
          rw [getD_set_ne false (Ne.symm hne')] at hlq
          obtain ⟨g', f1, f2, f3⟩ := inv.made q hq hlq
          exact ⟨g', f1, f3.lt⟩
        have new : ∀ q ∈ Ms, q.al = m.al → (a.put o'.dst (.pointer (some ⟨w.heap.size, 0, none⟩))).tmps.getD q.d undef = .pointer (some ⟨w.heap.size, 0, none⟩) := fun q hq e => by
          obtain ⟨_, _, k3', _⟩ := key q hq
          refine h2 q.d ?_
          rw [hdm, ← k3, ← k3']
          show famDst ops m.al = famDst ops q.al
          rw [e]
        by_cases e1 : m'.al = m.al
        · have e2 : m''.al ≠ m.al := fun e => hne (e1.trans e.symm)
          obtain ⟨g, f1, f2⟩ := old m'' hm'' e2 hl'
          rw [new m' hm' e1, other m'' hm'' e2, f1]
          intro e
          simp at e <;> omega
        · obtain ⟨g, f1, f2⟩ := old m' hm' e1 hl
          rw [other m' hm' e1]
          by_cases e2 : m''.al = m.al
          · rw [new m'' hm'' e2, f1]
            intro e
            simp at e <;> omega
          · rw [other m'' hm'' e2]
            rw [getD_set_ne false (Ne.symm e1)] at hl
            rw [getD_set_ne false (Ne.symm e2)] at hl'
            exact inv.dist m' hm' m'' hm'' hne hl hl'
    unfold wpOp
    simp only [ho]
    rw [if_pos hw]
    refine .inl ?_
    unfold Oper.wp
    rw [hrun]
    exact X
  · have ok := hpl (fun t => a.tmps.getD t undef) w inv.base.grows facts
    rw [famWants_eq, rho_eval] at ok
    unfold wpOp
    simp only [ho]
    split
    · rename_i hw
      refine .inl ?_
      have := ok.1 hw
      unfold Oper.wp
      generalize (execOp a.eval o').run P w = r at *
      cases r with
      | ok nx w' =>
        cases nx <;> simp only [famUpon] at this <;> simp only [Oper.upon]
        case value v => exact plain hno v w' this.1 this.2
        case skip => exact plain hno undef w' this.1 this.2
        case enter f args =>
          refine this.mono fun e w'' he => ?_
          obtain ⟨v, rfl, h1, h2⟩ := he
          exact plain hno v w'' h1 h2
      | halt x w' => simp only [famUpon] at this
    · rename_i hw
      exact plain hno undef w (Grows.refl w) (ok.2 (by simpa using hw))
end

theorem famX_any {R : World → World → Prop} {P : Program} {ops : Array Oper} {D : List Nat} {Fs : List (Nat × StR R)} {Ms : List Made} {a0 : Act} {w0 : World} {Q : Exit → Act → World → Prop} (hX : RelX R w0 Ms) (c : FamCX ops a0.tmps.size D (Ms.map Made.key))
    (hok : famAllX P ops D Fs a0 w0 Ms 0 ops.toList)
    (hend : ∀ (u : Nat → Value) (w' : World), R w0 w' → (∀ s ∈ D, famOf Fs s (u s) w') → (∀ m ∈ Ms, ∃ g, u m.d = .pointer (some ⟨g, 0, none⟩) ∧ w0.heap.size ≤ g ∧ Blo w' g m.t m.fin) → (∀ m ∈ Ms, ∀ m' ∈ Ms, m.al ≠ m'.al → u m.d ≠ u m'.d) → wpList P ops Q [] (fill u D a0) w') :
    ∀ (k : Nat) (listed : Array Bool) (a : Act) (w : World), unl listed ops.size = k → XInv ops D Fs Ms a0 w0 listed a w → wpAny P .any ops Q k listed a w := by
  intro k
  induction k with
  | zero =>
    intro listed a w hk inv
    have hl := unl_zero hk
    have e : listed = Array.replicate ops.size true ++ Array.replicate (ops.size - ops.size) false := by
      refine Array.ext_getElem? fun i => ?_
      have hs := inv.base.head.size
      rcases Nat.lt_or_ge i ops.size with h | h
      · have := hl i h
        have h2 : i < listed.size := by omega
        simp [h2] at this
        simp [h2, this, h]
      · rw [Array.getElem?_eq_none (by omega), Array.getElem?_eq_none (by simpa using h)]
    have ha : a = fill (fun s => a.tmps.getD s undef) D a0 := by
      refine act_ext (by rw [fill_defers, inv.base.defers]) fun s => ?_
      rw [fill_get]
      by_cases hD : s ∈ D
      · have := c.within s hD
        rw [if_pos ⟨hD, this⟩]
        have h2 : s < a.tmps.size := by rw [inv.base.size]; exact this
        simp [h2]
      · rw [if_neg (fun h => hD h.1)]
        exact inv.base.rest s fun i hi hd => absurd ((mem_DX c).2 ⟨i, hi, hd⟩) hD
    have key : ∀ m ∈ Ms, m.st < ops.size ∧ m.al < ops.size ∧ famDst ops m.al = some m.d ∧ famDst ops m.st = none ∧ Region.waitsFor .any ops m.st m.al = true ∧ ∀ m' ∈ Ms, m.al = m'.al ∨ m.st ≠ m'.st := fun m hm => by
      obtain ⟨h1, h2, h3, h4, h5, h6⟩ := c.made m.key (List.mem_map.2 ⟨m, hm, rfl⟩)
      exact ⟨h1, h2, h3, h4, h5, fun m' hm' => h6 m'.key (List.mem_map.2 ⟨m', hm', rfl⟩)⟩
    have H := hend (fun s => a.tmps.getD s undef) w inv.base.grows (fun s hs => by
      obtain ⟨i, hi, hd⟩ := (mem_DX c).1 hs
      exact inv.base.done i s hi hd (hl i hi)) (fun m hm => by
        obtain ⟨g, e1, e2, e3⟩ := inv.made m hm (hl _ (key m hm).2.1)
        rw [if_pos (hl _ (key m hm).1)] at e3
        exact ⟨g, e1, e2, e3⟩) (fun m hm m' hm' hne => inv.dist m hm m' hm' hne (hl _ (key m hm).2.1) (hl _ (key m' hm').2.1))
    rw [← ha] at H
    exact wpAny_of_seq (md := .any) (Q' := Q) (ops := ops) (P := P) [] ops.size listed a w (fun j => by simp) (by rw [e]; have := c.seq; rwa [Nat.sub_self] at this ⊢) H
  | succ k ih =>
    intro listed a w hk inv
    obtain ⟨i, hi, hf, hall⟩ := unl_least (listed := listed) (n := ops.size) (by omega)
    have hs := inv.base.head.size
    have hoi : ops[i]? = some ops[i] := by simp [hi]
    have hri : i ∈ Region.ready .any ops listed := mem_ready.2 ⟨getD_in (by omega) hf, ops[i], hoi, fun e he hb => hall _ (c.back i _ hi hoi e he hb)⟩
    refine ⟨fun h => (by rw [h] at hri; cases hri), fun j hj => ?_⟩
    obtain ⟨hun, o, ho, _⟩ := mem_ready.1 hj
    have hjn : j < ops.size := (Array.getElem?_eq_some_iff.1 ho).1
    have hjs : j < listed.size := by rw [hs]; exact hjn
    have hob := famAllX_at hok j o (by simpa using ho)
    rw [Nat.zero_add] at hob
    refine wpOp_mono (fun a' w' inv' => ih _ a' w' ?_ inv') (inv.step hX c ho hjn hj hob)
    have := unl_set hjs (getD_both hun) (n := ops.size)
    rw [if_pos hjn] at this
    omega

/-- THE LAW: as wp_fam, over the whole region; Ms: the blocks that it makes and fills. -/
theorem wp_famX {R : World → World → Prop} {P : Program} {id size : Nat} {l : List Oper} {D : List Nat} {a : Act} {w : World} {Q : Exit → Act → World → Prop} (Ms : List Made) (Fs : List (Nat × StR R)) (hX : RelX R w Ms) (hm : P.follows .mixedOrders = true) (hs : a.tmps.size = size) (hB : famXB l.toArray size D (Ms.map Made.key) = true)
    (hok : famAllX P l.toArray D Fs a w Ms 0 l)
    (hend : ∀ (u : Nat → Value) (w' : World), R w w' → (∀ s ∈ D, famOf Fs s (u s) w') → (∀ m ∈ Ms, ∃ g, u m.d = .pointer (some ⟨g, 0, none⟩) ∧ w.heap.size ≤ g ∧ Blo w' g m.t m.fin) → (∀ m ∈ Ms, ∀ m' ∈ Ms, m.al ≠ m'.al → u m.d ≠ u m'.d) → wpList P l.toArray Q [] (fill u D a) w') : (Code.region id l.toArray true).wp P Q a w := by
  subst hs
  have c := famXB_spec hB
  refine wp_region_any hm ?_
  have inv0 : XInv l.toArray D Fs Ms a w (Array.replicate l.toArray.size false) a { w with drawn := w.drawn + 1 } :=
    ⟨⟨⟨by simp, fun j oj _ hl => (by rw [getD_replicate_false] at hl; cases hl), fun t _ ht => getD_in (by simpa using ht) (getD_replicate_false _ _)⟩,
      hX.pre.drew w, rfl, rfl, fun i d _ _ hl => (by rw [getD_replicate_false] at hl; cases hl), fun s _ => rfl⟩, fun m _ hl => (by rw [getD_replicate_false] at hl; cases hl), fun m _ m' _ _ hl => (by rw [getD_replicate_false] at hl; cases hl)⟩
  exact famX_any (Q := Q) hX c hok hend _ _ a _ (unl_start _ _) inv0

/-- Blocks from B on may be written. -/
theorem Below.relX (w0 : World) (Ms : List Made) : RelX (Below w0.heap.size) w0 Ms :=
  ⟨⟨fun w => Below.refl _ _, fun h k => h.trans k, fun w => below_drewN (Below.refl _ w) 1⟩,
    fun h hg => Below.mono hg h.size, fun _ h hg _ hgr => below_gb' hgr h.size hg, fun h => h⟩
/-- Which obligation. -/
theorem obX_no {R : World → World → Prop} {P : Program} {ops : Array Oper} {D : List Nat} {Fs : List (Nat × StR R)} {a0 : Act} {w0 : World} {Ms : List Made} {k : Nat} {o : Oper} (h : (Ms.map Made.key).all (fun q => q.1 != k && q.2.1 != k) = true) (hf : FamXOk P ops D Fs a0 w0 o) : obX P ops D Fs a0 w0 Ms k o := by
  induction Ms with
  | nil => exact hf
  | cons m l ih =>
    simp only [List.map_cons, List.all_cons, Bool.and_eq_true] at h
    unfold obX
    rw [if_neg (by simpa [Made.key] using h.1.1), if_neg (by simpa [Made.key] using h.1.2)]
    exact ih h.2
theorem obX_st {R : World → World → Prop} {P : Program} {ops : Array Oper} {D : List Nat} {Fs : List (Nat × StR R)} {a0 : Act} {w0 : World} {k : Nat} {o : Oper} : ∀ {Ms : List Made} (j : Nat) {m : Made}, Ms[j]? = some m → m.st = k → ((Ms.take j).map Made.key).all (fun q => q.1 != k && q.2.1 != k) = true → FamXSt P ops D Fs a0 w0 m o → obX P ops D Fs a0 w0 Ms k o
  | [], j, m, h, _, _, _ => by simp at h
  | x :: l, 0, m, h, e, _, hf => by simp at h; subst h; unfold obX; rw [if_pos e]; exact hf
  | x :: l, j + 1, m, h, e, hn, hf => by
    simp only [List.take_succ_cons, List.map_cons, List.all_cons, Bool.and_eq_true] at hn
    unfold obX
    rw [if_neg (by simpa [Made.key] using hn.1.1), if_neg (by simpa [Made.key] using hn.1.2)]
    exact obX_st j (by simpa using h) e hn.2 hf
theorem obX_al {R : World → World → Prop} {P : Program} {ops : Array Oper} {D : List Nat} {Fs : List (Nat × StR R)} {a0 : Act} {w0 : World} {k : Nat} {o : Oper} : ∀ {Ms : List Made} (j : Nat) {m : Made}, Ms[j]? = some m → m.al = k → m.st ≠ k → ((Ms.take j).map Made.key).all (fun q => q.1 != k && q.2.1 != k) = true → FamXAl P ops Fs w0 m o → obX P ops D Fs a0 w0 Ms k o
  | [], j, m, h, _, _, _, _ => by simp at h
  | x :: l, 0, m, h, e, e', _, hf => by simp at h; subst h; unfold obX; rw [if_neg e', if_pos e]; exact hf
  | x :: l, j + 1, m, h, e, e', hn, hf => by
    simp only [List.take_succ_cons, List.map_cons, List.all_cons, Bool.and_eq_true] at hn
    unfold obX
    rw [if_neg (by simpa [Made.key] using hn.1.1), if_neg (by simpa [Made.key] using hn.1.2)]
    exact obX_al j (by simpa using h) e e' hn.2 hf
end Go.Proofs.Ytfllebfegngdhaa
end

section
namespace Go.Proofs.Ytfllebfegngdhaa
set_option linter.unusedVariables false
set_option linter.unusedSimpArgs false
open Go.RowKit

def updT (f : Nat → Value) (d : Option Nat) (v : Value) : Nat → Value := fun s => if d = some s then v else f s
def lst1 (L : Nat → Bool) (i : Nat) : Nat → Bool := fun j => if j = i then true else L j
abbrev Say := (Nat → Bool) → (Nat → Value) → World → Prop
abbrev Tt : World → World → Prop := fun _ _ => True
theorem Tt.pre : Pre Tt := ⟨fun _ => trivial, fun _ _ => trivial, fun _ => trivial⟩

def famYB (ops : Array Oper) (size : Nat) (D sp spd : List Nat) : Bool :=
  famXB ops size D [] && (List.range ops.size).all fun i => sp.contains i || match famDst ops i with
    | some d => !spd.contains d
    | none => true

section
variable (P : Program) (ops : Array Oper) (D : List Nat) (Fs : List (Nat × StR Tt)) (a0 : Act) (X : Say)
def FamYOk (o : Oper) : Prop :=
  ∀ (f : Nat → Value) (w : World), (∀ s ∈ o.looksAt ops, famAt D Fs a0 s (f s) w) →
    (famWants ops o f = true → famUpon P (fun v w' => Grows w w' ∧ ∀ d, o.dst = some d → famOf Fs d v w') ((execOp (rho f) o).run P w)) ∧
    (famWants ops o f = false → ∀ d, o.dst = some d → famOf Fs d undef w)
def FamYSp (i : Nat) (o : Oper) : Prop :=
  ∀ (L : Nat → Bool) (f : Nat → Value) (w : World), L i = false → (∀ j k, Region.waitsFor .any ops j k = true → L j = true → L k = true) → (∀ k, Region.waitsFor .any ops i k = true → L k = true) → X L f w → (∀ s ∈ o.looksAt ops, famAt D Fs a0 s (f s) w) →
    (famWants ops o f = true → famUpon P (fun v w' => (∀ d, o.dst = some d → famOf Fs d v w') ∧ X (lst1 L i) (updT f o.dst v) w') ((execOp (rho f) o).run P w)) ∧
    (famWants ops o f = false → (∀ d, o.dst = some d → famOf Fs d undef w) ∧ X (lst1 L i) (updT f o.dst undef) w)
def famAllY (sp : List Nat) : Nat → List Oper → Prop
  | _, [] => True
  | k, o :: l => (if sp.contains k then FamYSp P ops D Fs a0 X k o else FamYOk P ops D Fs a0 o) ∧ famAllY sp (k + 1) l
end
theorem famAllY_at {P : Program} {ops : Array Oper} {D : List Nat} {Fs : List (Nat × StR Tt)} {a0 : Act} {X : Say} {sp : List Nat} : ∀ {l : List Oper} {k : Nat}, famAllY P ops D Fs a0 X sp k l → ∀ (i : Nat) (o : Oper), l[i]? = some o → if sp.contains (k + i) then FamYSp P ops D Fs a0 X (k + i) o else FamYOk P ops D Fs a0 o
  | [], _, _, i, o, h => by simp at h
  | x :: l, k, h, 0, o, e => by simp at e; subst e; exact h.1
  | x :: l, k, h, i + 1, o, e => by have := famAllY_at h.2 i o (by simpa using e); rwa [show k + 1 + i = k + (i + 1) by omega] at this

structure YInv (ops : Array Oper) (D : List Nat) (Fs : List (Nat × StR Tt)) (X : Say) (a0 : Act) (w0 : World) (listed : Array Bool) (a : Act) (w : World) : Prop where
  base : FamInv ops ops.size D Fs a0 w0 listed a w
  say : X (fun j => listed.getD j false) (fun t => a.tmps.getD t undef) w

section
variable {P : Program} {ops : Array Oper} {D sp spd : List Nat} {Fs : List (Nat × StR Tt)} {X : Say} {a0 : Act} {w0 : World} {listed : Array Bool} {a : Act} {w : World} {Q : Exit → Act → World → Prop}
theorem YInv.step (hX : ∀ (L L' : Nat → Bool) (f f' : Nat → Value) (w w' : World), (∀ j ∈ sp, L' j = L j) → (∀ s ∈ spd, f' s = f s) → Grows w w' → X L f w → X L' f' w') (c : FamCX ops a0.tmps.size D []) (hsp : ∀ i, i < ops.size → sp.contains i = false → ∀ d, famDst ops i = some d → d ∉ spd)
    (inv : YInv ops D Fs X a0 w0 listed a w) {i : Nat} {o : Oper} (ho : ops[i]? = some o) (hi : i < ops.size) (hr : i ∈ Region.ready .any ops listed) (hok : if sp.contains i then FamYSp P ops D Fs a0 X i o else FamYOk P ops D Fs a0 o) :
    wpOp P ops Q i (fun a' w' => YInv ops D Fs X a0 w0 (listed.setIfInBounds i true) a' w') a w := by
  obtain ⟨hun, o', ho', hall⟩ := mem_ready.1 hr
  obtain rfl : o' = o := Option.some.inj (ho'.symm.trans ho)
  have hlt : i < listed.size := by rw [inv.base.head.size]; exact hi
  have hdst : famDst ops i = o'.dst := by unfold famDst; rw [ho]; rfl
  have facts : ∀ s ∈ o'.looksAt ops, famAt D Fs a0 s ((fun t => a.tmps.getD t undef) s) w := fun s hs => by
    unfold famAt
    by_cases hD : s ∈ D
    · rw [if_pos (by simpa using hD)]
      obtain ⟨j, hj, hd⟩ := (mem_DX c).1 hD
      obtain ⟨o2, ho2, e, he, hb, hon⟩ := Region.waitsFor_spec (c.waits i o' hi ho s hs j hj hd)
      obtain rfl : o2 = o' := Option.some.inj (ho2.symm.trans ho)
      have := hall e he hb
      rw [hon] at this
      exact inv.base.done j s hj hd this
    · rw [if_neg (by simpa using hD)]
      have := inv.base.rest s (fun j hj hd => absurd ((mem_DX c).2 ⟨j, hj, hd⟩) hD)
      simp only [Array.getD_eq_getD_getElem?, this]
  have eL : (fun j => (listed.setIfInBounds i true).getD j false) = lst1 (fun j => listed.getD j false) i := by
    funext j
    unfold lst1
    by_cases h : j = i
    · subst h; simp [hlt]
    · rw [if_neg h, getD_set_ne false (Ne.symm h)]
  have eF : ∀ v, (fun t => (a.put o'.dst v).tmps.getD t undef) = updT (fun t => a.tmps.getD t undef) o'.dst v := fun v => by
    funext t
    unfold updT
    cases hd : o'.dst with
    | none => simp [Act.put]
    | some d =>
      have hs : d < a.tmps.size := by rw [inv.base.size]; exact c.within d ((mem_DX c).2 ⟨i, hi, by rw [hdst]; exact hd⟩)
      by_cases h : d = t
      · subst h; simp [Act.put, hs]
      · rw [if_neg (fun e => h (by injection e))]; simp [Act.put, Array.getElem?_setIfInBounds_ne h]
  have fin : ∀ v w', (∀ d, o'.dst = some d → famOf Fs d v w') → X (lst1 (fun j => listed.getD j false) i) (updT (fun t => a.tmps.getD t undef) o'.dst v) w' → YInv ops D Fs X a0 w0 (listed.setIfInBounds i true) (a.put o'.dst v) w' := fun v w' hv hx => by
    have h1 := (XInv.put (Ms := []) Tt.pre c inv.base ho hi hr (w' := w') trivial hv).1
    refine ⟨h1, ?_⟩
    rw [eL, eF]
    exact hx
  unfold wpOp
  simp only [ho]
  split at hok
  · have hcl : ∀ j k, Region.waitsFor .any ops j k = true → (fun j => listed.getD j false) j = true → (fun j => listed.getD j false) k = true := fun j k hw hj => by
      obtain ⟨oj, hoj, e, he, hb, hon⟩ := Region.waitsFor_spec hw
      have := inv.base.head.closed j oj hoj hj e he hb
      rw [hon] at this
      exact this
    have hwt : ∀ k, Region.waitsFor .any ops i k = true → (fun j => listed.getD j false) k = true := fun k hw => by
      obtain ⟨oj, hoj, e, he, hb, hon⟩ := Region.waitsFor_spec hw
      obtain rfl : oj = o' := Option.some.inj (hoj.symm.trans ho)
      have := hall e he hb
      rw [hon] at this
      exact this
    have ok := hok (fun j => listed.getD j false) (fun t => a.tmps.getD t undef) w (getD_both hun) hcl hwt inv.say facts
    rw [famWants_eq, rho_eval] at ok
    split
    · rename_i hw
      refine .inl ?_
      have := ok.1 hw
      unfold Oper.wp
      generalize (execOp a.eval o').run P w = r at *
      cases r with
      | ok nx w' =>
        cases nx <;> simp only [famUpon] at this <;> simp only [Oper.upon]
        case value v => exact fin v w' this.1 this.2
        case skip => exact fin undef w' this.1 this.2
        case enter f args =>
          refine this.mono fun e w'' he => ?_
          obtain ⟨v, rfl, h1, h2⟩ := he
          exact fin v w'' h1 h2
      | halt x w' => simp only [famUpon] at this
    · rename_i hw
      have := ok.2 (by simpa using hw)
      exact fin undef w this.1 this.2
  · have hns : sp.contains i = false := by simpa using ‹¬ sp.contains i = true›
    have pl : ∀ v w', Grows w w' → X (lst1 (fun j => listed.getD j false) i) (updT (fun t => a.tmps.getD t undef) o'.dst v) w' := fun v w' hg => by
      refine hX _ _ _ _ w w' (fun j hj => ?_) (fun s hs => ?_) hg inv.say
      · unfold lst1
        rw [if_neg]
        rintro rfl
        have : sp.contains j = true := by simpa using hj
        rw [this] at hns; cases hns
      · unfold updT
        rw [if_neg]
        intro e
        exact hsp i hi hns s (by rw [hdst]; exact e) hs
    have ok := hok (fun t => a.tmps.getD t undef) w facts
    rw [famWants_eq, rho_eval] at ok
    split
    · rename_i hw
      refine .inl ?_
      have := ok.1 hw
      unfold Oper.wp
      generalize (execOp a.eval o').run P w = r at *
      cases r with
      | ok nx w' =>
        cases nx <;> simp only [famUpon] at this <;> simp only [Oper.upon]
        case value v => exact fin v w' this.2 (pl v w' this.1)
        case skip => exact fin undef w' this.2 (pl undef w' this.1)
        case enter f args =>
          refine this.mono fun e w'' he => ?_
          obtain ⟨v, rfl, h1, h2⟩ := he
          exact fin v w'' h2 (pl v w'' h1)
      | halt x w' => simp only [famUpon] at this
    · rename_i hw
      have := ok.2 (by simpa using hw)
      exact fin undef w this (pl undef w (Grows.refl w))
end

theorem famY_any {P : Program} {ops : Array Oper} {D sp spd : List Nat} {Fs : List (Nat × StR Tt)} {X : Say} {a0 : Act} {w0 : World} {Q : Exit → Act → World → Prop}
    (hX : ∀ (L L' : Nat → Bool) (f f' : Nat → Value) (w w' : World), (∀ j ∈ sp, L' j = L j) → (∀ s ∈ spd, f' s = f s) → Grows w w' → X L f w → X L' f' w') (c : FamCX ops a0.tmps.size D []) (hsp : ∀ i, i < ops.size → sp.contains i = false → ∀ d, famDst ops i = some d → d ∉ spd)
    (hok : famAllY P ops D Fs a0 X sp 0 ops.toList)
    (hend : ∀ (L : Nat → Bool) (u : Nat → Value) (w' : World), (∀ j, j < ops.size → L j = true) → X L u w' → (∀ s ∈ D, famOf Fs s (u s) w') → wpList P ops Q [] (fill u D a0) w') :
    ∀ (k : Nat) (listed : Array Bool) (a : Act) (w : World), unl listed ops.size = k → YInv ops D Fs X a0 w0 listed a w → wpAny P .any ops Q k listed a w := by
  intro k
  induction k with
  | zero =>
    intro listed a w hk inv
    have hl := unl_zero hk
    have e : listed = Array.replicate ops.size true ++ Array.replicate (ops.size - ops.size) false := by
      refine Array.ext_getElem? fun i => ?_
      have hs := inv.base.head.size
      rcases Nat.lt_or_ge i ops.size with h | h
      · have := hl i h
        have h2 : i < listed.size := by omega
        simp [h2] at this
        simp [h2, this, h]
      · rw [Array.getElem?_eq_none (by omega), Array.getElem?_eq_none (by simpa using h)]
    have ha : a = fill (fun s => a.tmps.getD s undef) D a0 := by
      refine act_ext (by rw [fill_defers, inv.base.defers]) fun s => ?_
      rw [fill_get]
      by_cases hD : s ∈ D
      · have := c.within s hD
        rw [if_pos ⟨hD, this⟩]
        have h2 : s < a.tmps.size := by rw [inv.base.size]; exact this
        simp [h2]
      · rw [if_neg (fun h => hD h.1)]
        exact inv.base.rest s fun i hi hd => absurd ((mem_DX c).2 ⟨i, hi, hd⟩) hD
    have H := hend (fun j => listed.getD j false) (fun s => a.tmps.getD s undef) w hl inv.say (fun s hs => by
      obtain ⟨i, hi, hd⟩ := (mem_DX c).1 hs
      exact inv.base.done i s hi hd (hl i hi))
    rw [← ha] at H
    exact wpAny_of_seq (md := .any) (Q' := Q) (ops := ops) (P := P) [] ops.size listed a w (fun j => by simp) (by rw [e]; have := c.seq; rwa [Nat.sub_self] at this ⊢) H
  | succ k ih =>
    intro listed a w hk inv
    obtain ⟨i, hi, hf, hall⟩ := unl_least (listed := listed) (n := ops.size) (by omega)
    have hs := inv.base.head.size
    have hoi : ops[i]? = some ops[i] := by simp [hi]
    have hri : i ∈ Region.ready .any ops listed := mem_ready.2 ⟨getD_in (by omega) hf, ops[i], hoi, fun e he hb => hall _ (c.back i _ hi hoi e he hb)⟩
    refine ⟨fun h => (by rw [h] at hri; cases hri), fun j hj => ?_⟩
    obtain ⟨hun, o, ho, _⟩ := mem_ready.1 hj
    have hjn : j < ops.size := (Array.getElem?_eq_some_iff.1 ho).1
    have hjs : j < listed.size := by rw [hs]; exact hjn
    have hob := famAllY_at hok j o (by simpa using ho)
    rw [Nat.zero_add] at hob
    refine wpOp_mono (fun a' w' inv' => ih _ a' w' ?_ inv') (inv.step hX c hsp ho hjn hj hob)
    have := unl_set hjs (getD_both hun) (n := ops.size)
    rw [if_pos hjn] at this
    omega

/-- THE LAW: as wp_fam, over the whole region; X is said of the world throughout; sp: the operations that turn it; spd: the temporaries that it speaks of. -/
theorem wp_famY {P : Program} {id size : Nat} {l : List Oper} {D : List Nat} {a : Act} {w : World} {Q : Exit → Act → World → Prop} (sp spd : List Nat) (Fs : List (Nat × StR Tt)) (X : Say)
    (hX : ∀ (L L' : Nat → Bool) (f f' : Nat → Value) (w w' : World), (∀ j ∈ sp, L' j = L j) → (∀ s ∈ spd, f' s = f s) → Grows w w' → X L f w → X L' f' w')
    (hm : P.follows .mixedOrders = true) (hs : a.tmps.size = size) (hB : famYB l.toArray size D sp spd = true)
    (h0 : X (fun _ => false) (fun t => a.tmps.getD t undef) w)
    (hok : famAllY P l.toArray D Fs a X sp 0 l)
    (hend : ∀ (L : Nat → Bool) (u : Nat → Value) (w' : World), (∀ j, j < l.length → L j = true) → X L u w' → (∀ s ∈ D, famOf Fs s (u s) w') → wpList P l.toArray Q [] (fill u D a) w') : (Code.region id l.toArray true).wp P Q a w := by
  subst hs
  unfold famYB at hB
  simp only [Bool.and_eq_true, List.all_eq_true, List.mem_range] at hB
  have c := famXB_spec hB.1
  have hsp : ∀ i, i < l.toArray.size → sp.contains i = false → ∀ d, famDst l.toArray i = some d → d ∉ spd := fun i hi hs d hd => by
    have := hB.2 i hi
    rw [hs, hd] at this
    simpa using this
  refine wp_region_any hm ?_
  have inv0 : YInv l.toArray D Fs X a w (Array.replicate l.toArray.size false) a { w with drawn := w.drawn + 1 } :=
    ⟨⟨⟨by simp, fun j oj _ hl => (by rw [getD_replicate_false] at hl; cases hl), fun t _ ht => getD_in (by simpa using ht) (getD_replicate_false _ _)⟩,
      trivial, rfl, rfl, fun i d _ _ hl => (by rw [getD_replicate_false] at hl; cases hl), fun s _ => rfl⟩, hX _ _ _ _ w _ (fun j _ => getD_replicate_false _ _) (fun _ _ => rfl) (Grows.drew w 1) h0⟩
  exact famY_any (Q := Q) hX c hsp hok (fun L u w' hL => hend L u w' (by simpa using hL)) _ _ a _ (unl_start _ _) inv0
end Go.Proofs.Ytfllebfegngdhaa
end

