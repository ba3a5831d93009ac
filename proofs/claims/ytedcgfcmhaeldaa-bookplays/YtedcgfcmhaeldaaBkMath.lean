/- The plain mathematics of layer 8: books of events. A book is which dots were seen, the events that hold in order of their dots, the greatest time. -/
import Derived.Test.YtedcgfcmhaeldaaEvMath
namespace Go.Proofs.Ytedcgfcmhaeldaa.B
set_option linter.unusedVariables false
set_option linter.unusedSimpArgs false
open Go.Proofs.Ytedcgfcmhaeldaa.D (Dot may bef)
open Go.Proofs.Ytedcgfcmhaeldaa.E (Ev right)

def dotOf (e : Ev) : Dot := (e.1 0, e.1 1)
structure Bk where
  saw : Dot → Bool
  hold : List Ev
  time : Int
def new : Bk := ⟨fun _ => false, [], 0⟩
/-- In its place. -/
def ins (e : Ev) : List Ev → List Ev
  | [] => [e]
  | x :: l => if bef (dotOf x) (dotOf e) then x :: ins e l else e :: x :: l
def put (b : Bk) (e : Ev) : Bk :=
  ⟨fun d => b.saw d || decide (d = dotOf e) || decide (d ∈ e.2), ins e (b.hold.filter fun x => !decide (dotOf x = dotOf e) && !decide (dotOf x ∈ e.2)), max b.time (e.1 2)⟩
def addE (b : Bk) (e : Ev) : Int := if right e.1 e.2 then (if b.saw (dotOf e) then 9 else 0) else 2
def add (b : Bk) (e : Ev) : Bk := if addE b e = 0 then put b e else b
def run (b : Bk) (l : List Ev) : Bk := l.foldl add b

theorem bef_irr (a : Dot) : bef a a = false := by unfold bef; simp
theorem bef_trans {a b c : Dot} (h : bef a b = true) (k : bef b c = true) : bef a c = true := by
  unfold bef at *
  simp only [decide_eq_true_eq] at *
  omega
theorem bef_asym {a b : Dot} (h : bef a b = true) : bef b a = false := by
  cases k : bef b a with
  | false => rfl
  | true => have := bef_trans h k; rw [bef_irr] at this; cases this
theorem bef_total {a b : Dot} (h : a ≠ b) (k : bef a b = false) : bef b a = true := by
  unfold bef at *
  simp only [decide_eq_true_eq, decide_eq_false_iff_not] at *
  have : ¬ (a.1 = b.1 ∧ a.2 = b.2) := fun hh => h (Prod.ext hh.1 hh.2)
  omega
/-- In order of dots. -/
def Srt (l : List Ev) : Prop := l.Pairwise fun x y => bef (dotOf x) (dotOf y) = true
theorem srt_ext : ∀ {l m : List Ev}, Srt l → Srt m → (∀ e, e ∈ l ↔ e ∈ m) → l = m
  | [], [], _, _, _ => rfl
  | [], y :: m, _, _, h => absurd ((h y).2 (List.mem_cons_self ..)) (by simp)
  | x :: l, [], _, _, h => absurd ((h x).1 (List.mem_cons_self ..)) (by simp)
  | x :: l, y :: m, hl, hm, h => by
    have hl' := List.pairwise_cons.1 hl
    have hm' := List.pairwise_cons.1 hm
    have exy : x = y := by
      rcases List.mem_cons.1 ((h x).1 (List.mem_cons_self ..)) with e | e
      · exact e
      · rcases List.mem_cons.1 ((h y).2 (List.mem_cons_self ..)) with e' | e'
        · exact e'.symm
        · have h1 := hm'.1 x e
          have h2 := hl'.1 y e'
          rw [bef_asym h1] at h2
          cases h2
    subst exy
    refine congrArg _ (srt_ext hl'.2 hm'.2 fun e => ⟨fun he => ?_, fun he => ?_⟩)
    · rcases List.mem_cons.1 ((h e).1 (List.mem_cons_of_mem _ he)) with e1 | e1
      · subst e1; have := hl'.1 e he; rw [bef_irr] at this; cases this
      · exact e1
    · rcases List.mem_cons.1 ((h e).2 (List.mem_cons_of_mem _ he)) with e1 | e1
      · subst e1; have := hm'.1 e he; rw [bef_irr] at this; cases this
      · exact e1
theorem mem_ins {e x : Ev} : ∀ {l : List Ev}, x ∈ ins e l ↔ x = e ∨ x ∈ l
  | [] => by simp [ins]
  | y :: l => by
    unfold ins
    split
    · simp only [List.mem_cons, mem_ins (l := l)]
      constructor
      · rintro (h | h | h)
        · exact .inr (.inl h)
        · exact .inl h
        · exact .inr (.inr h)
      · rintro (h | h | h)
        · exact .inr (.inl h)
        · exact .inl h
        · exact .inr (.inr h)
    · simp
theorem srt_ins {e : Ev} : ∀ {l : List Ev}, Srt l → (∀ x ∈ l, dotOf x ≠ dotOf e) → Srt (ins e l)
  | [], _, _ => by simp [ins, Srt]
  | y :: l, hl, hn => by
    have hl' := List.pairwise_cons.1 hl
    unfold ins
    split
    · next hb =>
      refine List.pairwise_cons.2 ⟨fun x hx => ?_, srt_ins hl'.2 (fun x hx => hn x (List.mem_cons_of_mem _ hx))⟩
      rcases mem_ins.1 hx with rfl | hx
      · exact hb
      · exact hl'.1 x hx
    · next hb =>
      have h1 : bef (dotOf e) (dotOf y) = true := bef_total (hn y (List.mem_cons_self ..)) (by simpa using hb)
      refine List.pairwise_cons.2 ⟨fun x hx => ?_, hl⟩
      rcases List.mem_cons.1 hx with rfl | hx
      · exact h1
      · exact bef_trans h1 (hl'.1 x hx)
theorem srt_filter {l : List Ev} (p : Ev → Bool) (h : Srt l) : Srt (l.filter p) := List.Pairwise.filter p h
theorem mem_put {b : Bk} {e x : Ev} : x ∈ (put b e).hold ↔ x = e ∨ (x ∈ b.hold ∧ dotOf x ≠ dotOf e ∧ dotOf x ∉ e.2) := by
  show x ∈ ins e _ ↔ _
  rw [mem_ins, List.mem_filter]
  simp
theorem saw_put {b : Bk} {e : Ev} {d : Dot} : (put b e).saw d = true ↔ b.saw d = true ∨ d = dotOf e ∨ d ∈ e.2 := by
  show (b.saw d || decide (d = dotOf e) || decide (d ∈ e.2)) = true ↔ _
  simp [or_assoc]
theorem srt_put {b : Bk} {e : Ev} (h : Srt b.hold) : Srt (put b e).hold := by
  refine srt_ins (srt_filter _ h) fun x hx => ?_
  have := (List.mem_filter.1 hx).2
  simp at this
  exact this.1
theorem addE_ok {b : Bk} {e : Ev} : addE b e = 0 ↔ right e.1 e.2 = true ∧ b.saw (dotOf e) = false := by
  unfold addE
  cases right e.1 e.2 <;> cases b.saw (dotOf e) <;> simp
theorem add_ok {b : Bk} {e : Ev} (h : addE b e = 0) : add b e = put b e := by unfold add; rw [if_pos h]
theorem add_no {b : Bk} {e : Ev} (h : addE b e ≠ 0) : add b e = b := by unfold add; rw [if_neg h]
theorem right_own {e : Ev} (h : right e.1 e.2 = true) : dotOf e ∉ e.2 := fun hd => by
  obtain ⟨_, _, _, hr, _⟩ := E.right_parts h
  obtain ⟨i, hi, he⟩ := List.mem_iff_getElem.1 hd
  have := List.all_eq_true.1 hr i (List.mem_range.2 hi)
  unfold E.rem1 at this
  rw [List.getElem?_eq_getElem hi, he] at this
  simp [dotOf] at this
theorem right_may {e : Ev} (h : right e.1 e.2 = true) : may (dotOf e) = true ∧ (∀ d ∈ e.2, may d = true) ∧ 1 ≤ e.1 2 ∧ e.1 2 ≤ 1099511627776 ∧ e.2.length ≤ 96 := by
  obtain ⟨h1, h2, h3, h4, _⟩ := E.right_parts h
  exact ⟨h1, E.rems_may h4, h2.1, h2.2.1, h3⟩

/-- What every book keeps to. -/
structure Ok (b : Bk) : Prop where
  srt : Srt b.hold
  rt : ∀ e ∈ b.hold, right e.1 e.2 = true
  seen : ∀ e ∈ b.hold, b.saw (dotOf e) = true
  gone : ∀ e ∈ b.hold, ∀ d ∈ e.2, b.saw d = true
  may : ∀ d, b.saw d = true → D.may d = true
  t0 : 0 ≤ b.time
  t1 : b.time ≤ 1099511627776
theorem ok_new : Ok new := ⟨List.Pairwise.nil, (fun e he => (by cases he)), (fun e he => (by cases he)), (fun e he => (by cases he)), (fun d h => (by cases h)), by decide, by decide⟩
theorem ok_add {b : Bk} (h : Ok b) (e : Ev) : Ok (add b e) := by
  by_cases h0 : addE b e = 0
  · rw [add_ok h0]
    obtain ⟨hr, hs⟩ := addE_ok.1 h0
    obtain ⟨m1, m2, m3, m4, _⟩ := right_may hr
    refine ⟨srt_put h.srt, fun x hx => ?_, fun x hx => ?_, fun x hx d hd => ?_, fun d hd => ?_, ?_, ?_⟩
    · rcases mem_put.1 hx with rfl | hx
      · exact hr
      · exact h.rt x hx.1
    · rcases mem_put.1 hx with rfl | hx
      · exact saw_put.2 (.inr (.inl rfl))
      · exact saw_put.2 (.inl (h.seen x hx.1))
    · rcases mem_put.1 hx with rfl | hx
      · exact saw_put.2 (.inr (.inr hd))
      · exact saw_put.2 (.inl (h.gone x hx.1 d hd))
    · rcases saw_put.1 hd with h1 | rfl | h1
      · exact h.may d h1
      · exact m1
      · exact m2 d h1
    · have := h.t0
      show 0 ≤ max b.time (e.1 2)
      omega
    · have := h.t1
      show max b.time (e.1 2) ≤ 1099511627776
      omega
  · rw [add_no h0]; exact h
theorem run_snoc (b : Bk) (l : List Ev) (e : Ev) : run b (l ++ [e]) = add (run b l) e := by simp [run]
theorem run_app (b : Bk) (l m : List Ev) : run b (l ++ m) = run (run b l) m := by simp [run]
theorem ok_run {b : Bk} (h : Ok b) : ∀ l : List Ev, Ok (run b l)
  | [] => h
  | e :: l => ok_run (ok_add h e) l
/-- Two books of one dot's events have them both, or it is the same event. -/
theorem hold_dot {b : Bk} (h : Ok b) {x y : Ev} (hx : x ∈ b.hold) (hy : y ∈ b.hold) (hd : dotOf x = dotOf y) : x = y := by
  have : ∀ {l : List Ev}, Srt l → x ∈ l → y ∈ l → x = y := by
    intro l hl hx hy
    induction l with
    | nil => cases hx
    | cons z l ih =>
      have hl' := List.pairwise_cons.1 hl
      rcases List.mem_cons.1 hx with e1 | e1
      · rcases List.mem_cons.1 hy with e2 | e2
        · rw [e1, e2]
        · have := hl'.1 y e2; rw [← e1, hd, bef_irr] at this; cases this
      · rcases List.mem_cons.1 hy with e2 | e2
        · have := hl'.1 x e1; rw [← e2, hd, bef_irr] at this; cases this
        · exact ih hl'.2 e1 e2
  exact this h.srt hx hy

/-! closed events -/
/-- Events that are closed, and right. -/
structure Closed (l : List Ev) : Prop where
  rt : ∀ e ∈ l, right e.1 e.2 = true
  one : ∀ e ∈ l, ∀ f ∈ l, dotOf e = dotOf f → e = f
  cl : ∀ e ∈ l, ∀ f ∈ l, dotOf f ∈ e.2 → ∀ d ∈ f.2, d ∈ e.2
/-- Behind some of them. -/
structure Fed (s : List Ev) (b : Bk) : Prop where
  ok : Ok b
  saw : ∀ d, b.saw d = true ↔ ∃ e ∈ s, d = dotOf e ∨ d ∈ e.2
  hold : ∀ e, e ∈ b.hold ↔ e ∈ s ∧ ∀ f ∈ s, dotOf e ∉ f.2
theorem fed_new : Fed [] new := ⟨ok_new, fun d => ⟨(fun h => (by cases h)), (fun ⟨e, he, _⟩ => (by cases he))⟩, fun e => ⟨(fun h => (by cases h)), (fun h => (by cases h.1))⟩⟩
theorem fed_add {l s : List Ev} (hC : Closed l) (hs : ∀ e ∈ s, e ∈ l) {b : Bk} (h : Fed s b) {e : Ev} (he : e ∈ l) : Fed (s ++ [e]) (add b e) := by
  have hr := hC.rt e he
  refine ⟨ok_add h.ok e, ?_, ?_⟩
  · by_cases h0 : addE b e = 0
    · rw [add_ok h0]
      intro d
      rw [saw_put, h.saw]
      constructor
      · rintro (⟨x, hx, hd⟩ | hd)
        · exact ⟨x, List.mem_append_left _ hx, hd⟩
        · exact ⟨e, by simp, hd⟩
      · rintro ⟨x, hx, hd⟩
        rcases List.mem_append.1 hx with hx | hx
        · exact .inl ⟨x, hx, hd⟩
        · simp at hx; subst hx; exact .inr hd
    · rw [add_no h0]
      have hsw : b.saw (dotOf e) = true := by
        cases hh : b.saw (dotOf e) with
        | true => rfl
        | false => exact absurd (addE_ok.2 ⟨hr, hh⟩) h0
      intro d
      rw [h.saw]
      constructor
      · rintro ⟨x, hx, hd⟩
        exact ⟨x, List.mem_append_left _ hx, hd⟩
      · rintro ⟨x, hx, hd⟩
        rcases List.mem_append.1 hx with hx | hx
        · exact ⟨x, hx, hd⟩
        · simp at hx
          subst hx
          obtain ⟨f, hf, hfd⟩ := (h.saw _).1 hsw
          rcases hfd with hfd | hfd
          · have := hC.one x he f (hs f hf) hfd
            subst this
            exact ⟨x, hf, hd⟩
          · rcases hd with rfl | hd
            · exact ⟨f, hf, .inr hfd⟩
            · exact ⟨f, hf, .inr (hC.cl f (hs f hf) x he hfd d hd)⟩
  · by_cases h0 : addE b e = 0
    · rw [add_ok h0]
      have hsw := (addE_ok.1 h0).2
      have hns : ∀ f ∈ s, dotOf e ≠ dotOf f ∧ dotOf e ∉ f.2 := fun f hf => by
        constructor
        · intro hd; rw [(h.saw _).2 ⟨f, hf, .inl hd⟩] at hsw; cases hsw
        · intro hd; rw [(h.saw _).2 ⟨f, hf, .inr hd⟩] at hsw; cases hsw
      intro x
      rw [mem_put, h.hold]
      constructor
      · rintro (rfl | ⟨⟨hx, hxn⟩, hd1, hd2⟩)
        · refine ⟨by simp, fun f hf => ?_⟩
          rcases List.mem_append.1 hf with hf | hf
          · exact (hns f hf).2
          · simp at hf; subst hf; exact right_own hr
        · refine ⟨List.mem_append_left _ hx, fun f hf => ?_⟩
          rcases List.mem_append.1 hf with hf | hf
          · exact hxn f hf
          · simp at hf; subst hf; exact hd2
      · rintro ⟨hx, hxn⟩
        rcases List.mem_append.1 hx with hx | hx
        · exact .inr ⟨⟨hx, fun f hf => hxn f (List.mem_append_left _ hf)⟩, fun hd => (hns x hx).1 hd.symm, hxn e (by simp)⟩
        · simp at hx; exact .inl hx
    · rw [add_no h0]
      have hsw : b.saw (dotOf e) = true := by
        cases hh : b.saw (dotOf e) with
        | true => rfl
        | false => exact absurd (addE_ok.2 ⟨hr, hh⟩) h0
      obtain ⟨f, hf, hfd⟩ := (h.saw _).1 hsw
      intro x
      rw [h.hold]
      rcases hfd with hfd | hfd
      · have := hC.one e he f (hs f hf) hfd
        subst this
        constructor
        · rintro ⟨hx, hxn⟩
          refine ⟨List.mem_append_left _ hx, fun g hg => ?_⟩
          rcases List.mem_append.1 hg with hg | hg
          · exact hxn g hg
          · simp at hg; subst hg; exact hxn g hf
        · rintro ⟨hx, hxn⟩
          refine ⟨?_, fun g hg => hxn g (List.mem_append_left _ hg)⟩
          rcases List.mem_append.1 hx with hx | hx
          · exact hx
          · simp at hx; subst hx; exact hf
      · constructor
        · rintro ⟨hx, hxn⟩
          refine ⟨List.mem_append_left _ hx, fun g hg => ?_⟩
          rcases List.mem_append.1 hg with hg | hg
          · exact hxn g hg
          · simp at hg
            subst hg
            exact fun hh => hxn f hf (hC.cl f (hs f hf) g he hfd _ hh)
        · rintro ⟨hx, hxn⟩
          refine ⟨?_, fun g hg => hxn g (List.mem_append_left _ hg)⟩
          rcases List.mem_append.1 hx with hx | hx
          · exact hx
          · simp at hx; subst hx; exact absurd hfd (hxn f (List.mem_append_left _ hf))
theorem fed_more {l s : List Ev} (hC : Closed l) : ∀ {m : List Ev} {b : Bk}, (∀ e ∈ s, e ∈ l) → (∀ e ∈ m, e ∈ l) → Fed s b → Fed (s ++ m) (run b m) := by
  intro m
  induction m generalizing s with
  | nil => intro b hs hm h; simpa [run] using h
  | cons e m ih =>
    intro b hs hm h
    have h1 := fed_add hC hs h (hm e (List.mem_cons_self ..))
    have h2 := ih (s := s ++ [e]) (b := add b e) (fun x hx => by
      rcases List.mem_append.1 hx with hx | hx
      · exact hs x hx
      · simp at hx; subst hx; exact hm x (List.mem_cons_self ..)) (fun x hx => hm x (List.mem_cons_of_mem _ hx)) h1
    simpa [run] using h2
theorem fed_run {l m : List Ev} (hC : Closed l) (hm : ∀ e ∈ m, e ∈ l) : Fed m (run new m) := by
  have := fed_more hC (s := []) (m := m) (fun e he => by cases he) hm fed_new
  simpa using this
/-- The same events, in whatever order and however often: the same are seen, and hold. -/
theorem fed_same {s t : List Ev} {a b : Bk} (ha : Fed s a) (hb : Fed t b) (h : ∀ e, e ∈ s ↔ e ∈ t) : (∀ d, a.saw d = b.saw d) ∧ a.hold = b.hold := by
  constructor
  · intro d
    have : a.saw d = true ↔ b.saw d = true := by
      rw [ha.saw, hb.saw]
      constructor
      · rintro ⟨e, he, hd⟩; exact ⟨e, (h e).1 he, hd⟩
      · rintro ⟨e, he, hd⟩; exact ⟨e, (h e).2 he, hd⟩
    cases h1 : a.saw d <;> cases h2 : b.saw d <;> simp_all
  · refine srt_ext ha.ok.srt hb.ok.srt fun e => ?_
    rw [ha.hold, hb.hold]
    constructor
    · rintro ⟨he, hn⟩; exact ⟨(h e).1 he, fun f hf => hn f ((h f).2 hf)⟩
    · rintro ⟨he, hn⟩; exact ⟨(h e).2 he, fun f hf => hn f ((h f).1 hf)⟩
end Go.Proofs.Ytedcgfcmhaeldaa.B
