/- The plain mathematics of layer 8: two books meet; what is seen holds or is removed; what is newer, in pieces; what stands for what. -/
import Derived.Test.YtedcgfcmhaeldaaBkMath
namespace Go.Proofs.Ytedcgfcmhaeldaa.B
set_option linter.unusedVariables false
set_option linter.unusedSimpArgs false
open Go.Proofs.Ytedcgfcmhaeldaa.D (Dot may bef)
open Go.Proofs.Ytedcgfcmhaeldaa.E (Ev right)

theorem filter_lt {α : Type} {p q : α → Bool} : ∀ {l : List α}, (∀ x ∈ l, p x = true → q x = true) → (∃ x ∈ l, q x = true ∧ p x = false) → (l.filter p).length < (l.filter q).length
  | [], _, ⟨x, hx, _⟩ => (by cases hx)
  | y :: l, h, ⟨x, hx, hq, hp⟩ => by
    have hle : ∀ {m : List α}, (∀ x ∈ m, p x = true → q x = true) → (m.filter p).length ≤ (m.filter q).length := by
      intro m
      induction m with
      | nil => intro _; simp
      | cons z m ih =>
        intro hm
        have := ih (fun x hx => hm x (List.mem_cons_of_mem _ hx))
        have h1 := hm z (List.mem_cons_self ..)
        simp only [List.filter_cons]
        split
        · next hpz => rw [if_pos (h1 hpz)]; simp; omega
        · split
          · simp; omega
          · exact this
    have hl := hle (fun x hx => h x (List.mem_cons_of_mem _ hx))
    have hy := h y (List.mem_cons_self ..)
    simp only [List.filter_cons]
    rcases List.mem_cons.1 hx with e | e
    · subst e
      rw [if_neg (by rw [hp]; simp), if_pos hq]
      simp; omega
    · have := filter_lt (l := l) (fun x hx => h x (List.mem_cons_of_mem _ hx)) ⟨x, e, hq, hp⟩
      split
      · next hpz => rw [if_pos (hy hpz)]; simp; omega
      · split
        · simp; omega
        · exact this
/-- What came holds, or is removed by one that holds. -/
theorem top {l s : List Ev} (hC : Closed l) (hs : ∀ e ∈ s, e ∈ l) {b : Bk} (h : Fed s b) : ∀ e ∈ s, ∃ f ∈ b.hold, f = e ∨ dotOf e ∈ f.2 := by
  have key : ∀ n : Nat, ∀ e ∈ s, (s.filter fun g => decide (dotOf e ∈ g.2)).length ≤ n → ∃ f ∈ b.hold, f = e ∨ dotOf e ∈ f.2 := by
    intro n
    induction n with
    | zero =>
      intro e he hn
      refine ⟨e, (h.hold e).2 ⟨he, fun f hf hd => ?_⟩, .inl rfl⟩
      have h1 : f ∈ s.filter fun g => decide (dotOf e ∈ g.2) := List.mem_filter.2 ⟨hf, by simpa using hd⟩
      have h2 := List.length_pos_of_mem h1
      omega
    | succ n ih =>
      intro e he hn
      by_cases hx : ∃ g ∈ s, dotOf e ∈ g.2
      · obtain ⟨g, hg, hd⟩ := hx
        have hlt : (s.filter fun k => decide (dotOf g ∈ k.2)).length < (s.filter fun k => decide (dotOf e ∈ k.2)).length :=
          filter_lt (fun k hk hp => by
            simp only [decide_eq_true_eq] at *
            exact hC.cl k (hs k hk) g (hs g hg) hp _ hd) ⟨g, hg, by simpa using hd, by simpa using right_own (hC.rt g (hs g hg))⟩
        obtain ⟨f, hf, hfg⟩ := ih g hg (by omega)
        refine ⟨f, hf, .inr ?_⟩
        rcases hfg with rfl | hfg
        · exact hd
        · exact hC.cl f (hs f ((h.hold f).1 hf).1) g (hs g hg) hfg _ hd
      · exact ⟨e, (h.hold e).2 ⟨he, fun f hf hd => hx ⟨f, hf, hd⟩⟩, .inl rfl⟩
  exact fun e he => key _ e he (Nat.le_refl _)

/-! two books meet -/
def news (b : Bk) (has : Dot → Bool) : List Ev := b.hold.filter fun e => !has (dotOf e)
theorem mem_news {b : Bk} {has : Dot → Bool} {e : Ev} : e ∈ news b has ↔ e ∈ b.hold ∧ has (dotOf e) = false := by
  unfold news; rw [List.mem_filter]; simp
section
variable {l s t : List Ev} {a b : Bk}
/-- What a book hasn't seen of another one's, and what it has. -/
theorem covers (hC : Closed l) (hs : ∀ e ∈ s, e ∈ l) (ht : ∀ e ∈ t, e ∈ l) (ha : Fed s a) (hb : Fed t b) {f : Ev} (hf : f ∈ t) : ∃ g ∈ s ++ news b a.saw, g = f ∨ dotOf f ∈ g.2 := by
  obtain ⟨g, hg, hgf⟩ := top hC ht hb f hf
  have hgt := ((hb.hold g).1 hg).1
  cases hsw : a.saw (dotOf g) with
  | false => exact ⟨g, List.mem_append_right _ (mem_news.2 ⟨hg, hsw⟩), hgf⟩
  | true =>
    obtain ⟨k, hk, hkd⟩ := (ha.saw _).1 hsw
    refine ⟨k, List.mem_append_left _ hk, ?_⟩
    rcases hkd with hkd | hkd
    · have := hC.one g (ht g hgt) k (hs k hk) hkd
      subst this
      exact hgf
    · rcases hgf with rfl | hgf
      · exact .inr hkd
      · exact .inr (hC.cl k (hs k hk) g (ht g hgt) hkd _ hgf)
theorem fed_news (hC : Closed l) (hs : ∀ e ∈ s, e ∈ l) (ht : ∀ e ∈ t, e ∈ l) (ha : Fed s a) (hb : Fed t b) : Fed (s ++ news b a.saw) (run a (news b a.saw)) :=
  fed_more hC hs (fun e he => ht e ((hb.hold e).1 (mem_news.1 he).1).1) ha
theorem meet_saw (hC : Closed l) (hs : ∀ e ∈ s, e ∈ l) (ht : ∀ e ∈ t, e ∈ l) (ha : Fed s a) (hb : Fed t b) (d : Dot) : (run a (news b a.saw)).saw d = true ↔ ∃ e, (e ∈ s ∨ e ∈ t) ∧ (d = dotOf e ∨ d ∈ e.2) := by
  rw [(fed_news hC hs ht ha hb).saw]
  constructor
  · rintro ⟨e, he, hd⟩
    rcases List.mem_append.1 he with he | he
    · exact ⟨e, .inl he, hd⟩
    · exact ⟨e, .inr ((hb.hold e).1 (mem_news.1 he).1).1, hd⟩
  · rintro ⟨e, he | he, hd⟩
    · exact ⟨e, List.mem_append_left _ he, hd⟩
    · obtain ⟨g, hg, hge⟩ := covers hC hs ht ha hb he
      have hgl : g ∈ l := by
        rcases List.mem_append.1 hg with hg | hg
        · exact hs g hg
        · exact ht g ((hb.hold g).1 (mem_news.1 hg).1).1
      refine ⟨g, hg, ?_⟩
      rcases hge with rfl | hge
      · exact hd
      · rcases hd with rfl | hd
        · exact .inr hge
        · exact .inr (hC.cl g hgl e (ht e he) hge _ hd)
theorem meet_hold (hC : Closed l) (hs : ∀ e ∈ s, e ∈ l) (ht : ∀ e ∈ t, e ∈ l) (ha : Fed s a) (hb : Fed t b) (e : Ev) : e ∈ (run a (news b a.saw)).hold ↔ (e ∈ s ∨ e ∈ t) ∧ ∀ f, f ∈ s ∨ f ∈ t → dotOf e ∉ f.2 := by
  rw [(fed_news hC hs ht ha hb).hold]
  constructor
  · rintro ⟨he, hn⟩
    refine ⟨?_, ?_⟩
    · rcases List.mem_append.1 he with he | he
      · exact .inl he
      · exact .inr ((hb.hold e).1 (mem_news.1 he).1).1
    · rintro f (hf | hf) hd
      · exact hn f (List.mem_append_left _ hf) hd
      · obtain ⟨g, hg, hgf⟩ := covers hC hs ht ha hb hf
        have hgl : g ∈ l := by
          rcases List.mem_append.1 hg with hg | hg
          · exact hs g hg
          · exact ht g ((hb.hold g).1 (mem_news.1 hg).1).1
        rcases hgf with rfl | hgf
        · exact hn g hg hd
        · exact hn g hg (hC.cl g hgl f (ht f hf) hgf _ hd)
  · rintro ⟨he, hn⟩
    refine ⟨?_, fun f hf => ?_⟩
    · rcases he with he | he
      · exact List.mem_append_left _ he
      · have hh : e ∈ b.hold := (hb.hold e).2 ⟨he, fun f hf => hn f (.inr hf)⟩
        cases hsw : a.saw (dotOf e) with
        | false => exact List.mem_append_right _ (mem_news.2 ⟨hh, hsw⟩)
        | true =>
          obtain ⟨k, hk, hkd⟩ := (ha.saw _).1 hsw
          rcases hkd with hkd | hkd
          · have := hC.one e (ht e he) k (hs k hk) hkd
            subst this
            exact List.mem_append_left _ hk
          · exact absurd hkd (hn k (.inl hk))
    · rcases List.mem_append.1 hf with hf | hf
      · exact hn f (.inl hf)
      · exact hn f (.inr ((hb.hold f).1 (mem_news.1 hf).1).1)
/-- Each handed all that is newer of the other one: the same are seen, and hold; nothing is newer then. -/
theorem meets (hC : Closed l) (hs : ∀ e ∈ s, e ∈ l) (ht : ∀ e ∈ t, e ∈ l) (ha : Fed s a) (hb : Fed t b) :
    (∀ d, (run a (news b a.saw)).saw d = (run b (news a b.saw)).saw d) ∧ (run a (news b a.saw)).hold = (run b (news a b.saw)).hold ∧ news (run a (news b a.saw)) (run b (news a b.saw)).saw = [] := by
  have h1 : ∀ d, (run a (news b a.saw)).saw d = (run b (news a b.saw)).saw d := fun d => by
    have : (run a (news b a.saw)).saw d = true ↔ (run b (news a b.saw)).saw d = true := by
      rw [meet_saw hC hs ht ha hb, meet_saw hC ht hs hb ha]
      constructor
      · rintro ⟨e, he, hd⟩; exact ⟨e, he.symm, hd⟩
      · rintro ⟨e, he, hd⟩; exact ⟨e, he.symm, hd⟩
    cases e1 : (run a (news b a.saw)).saw d <;> cases e2 : (run b (news a b.saw)).saw d <;> simp_all
  have h2 : (run a (news b a.saw)).hold = (run b (news a b.saw)).hold := by
    refine srt_ext (fed_news hC hs ht ha hb).ok.srt (fed_news hC ht hs hb ha).ok.srt fun e => ?_
    rw [meet_hold hC hs ht ha hb, meet_hold hC ht hs hb ha]
    constructor
    · rintro ⟨he, hn⟩; exact ⟨he.symm, fun f hf => hn f hf.symm⟩
    · rintro ⟨he, hn⟩; exact ⟨he.symm, fun f hf => hn f hf.symm⟩
  refine ⟨h1, h2, List.filter_eq_nil_iff.2 fun e he => ?_⟩
  rw [← h1, (fed_news hC hs ht ha hb).ok.seen e he]
  simp
end
/-- What is handed over is right: it is taken, or known. -/
theorem news_right {b : Bk} (h : Ok b) {has : Dot → Bool} {e : Ev} (he : e ∈ news b has) (c : Bk) : addE c e ≠ 2 := by
  unfold addE
  rw [h.rt e (mem_news.1 he).1]
  simp only [if_true]
  split <;> decide

/-! what is seen holds or is removed -/
structure Grw (b : Bk) (R : Dot → Bool) : Prop where
  ok : Ok b
  saw : ∀ d, R d = true → b.saw d = true
  dis : ∀ e ∈ b.hold, R (dotOf e) = false
  cov : ∀ d, b.saw d = true → (∃ e ∈ b.hold, dotOf e = d) ∨ R d = true
def rmv (R : Dot → Bool) (e : Ev) : Dot → Bool := fun d => R d || decide (d ∈ e.2)
theorem grw_new : Grw new fun _ => false := ⟨ok_new, (fun d h => (by cases h)), (fun e he => (by cases he)), (fun d h => (by cases h))⟩
theorem grw_ok {b : Bk} {R : Dot → Bool} (h : Grw b R) {e : Ev} (h0 : addE b e = 0) : Grw (add b e) (rmv R e) := by
  have hr := (addE_ok.1 h0).1
  have hs := (addE_ok.1 h0).2
  have hok := ok_add h.ok e
  rw [add_ok h0] at hok ⊢
  refine ⟨hok, fun d hd => ?_, fun x hx => ?_, fun d hd => ?_⟩
  · simp only [rmv, Bool.or_eq_true, decide_eq_true_eq] at hd
    rcases hd with hd | hd
    · exact saw_put.2 (.inl (h.saw d hd))
    · exact saw_put.2 (.inr (.inr hd))
  · simp only [rmv, Bool.or_eq_false_iff, decide_eq_false_iff_not]
    rcases mem_put.1 hx with rfl | ⟨hx, h1, h2⟩
    · refine ⟨?_, right_own hr⟩
      cases hh : R (dotOf x) with
      | false => rfl
      | true => rw [h.saw _ hh] at hs; cases hs
    · exact ⟨h.dis x hx, h2⟩
  · simp only [rmv, Bool.or_eq_true, decide_eq_true_eq]
    rcases saw_put.1 hd with h1 | rfl | h1
    · rcases h.cov d h1 with ⟨x, hx, rfl⟩ | h2
      · by_cases he : dotOf x ∈ e.2
        · exact .inr (.inr he)
        · by_cases hxe : dotOf x = dotOf e
          · exact .inl ⟨e, mem_put.2 (.inl rfl), hxe.symm⟩
          · exact .inl ⟨x, mem_put.2 (.inr ⟨hx, hxe, he⟩), rfl⟩
      · exact .inr (.inl h2)
    · exact .inl ⟨e, mem_put.2 (.inl rfl), rfl⟩
    · exact .inr (.inr h1)
theorem grw_no {b : Bk} {R : Dot → Bool} (h : Grw b R) {e : Ev} (h0 : addE b e ≠ 0) : Grw (add b e) R := by rw [add_no h0]; exact h
theorem saw_add {b : Bk} {e : Ev} {d : Dot} (h : b.saw d = true) : (add b e).saw d = true := by
  unfold add
  split
  · exact saw_put.2 (.inl h)
  · exact h

/-! what is newer, in pieces -/
def newer (b : Bk) (has : Dot → Bool) (most : Int) : List Ev := (news b has).take most.toNat
def plus (has : Dot → Bool) (l : List Ev) : Dot → Bool := fun d => has d || l.any fun e => decide (dotOf e = d)
theorem news_plus {b : Bk} (h : Ok b) (has : Dot → Bool) (k : Nat) : news b (plus has ((news b has).take k)) = (news b has).drop k := by
  have hsr : Srt (news b has) := srt_filter _ h.srt
  have e1 : news b (plus has ((news b has).take k)) = (news b has).filter fun e => !((news b has).take k).any fun x => decide (dotOf x = dotOf e) := by
    unfold news
    rw [List.filter_filter]
    refine List.filter_congr fun e he => ?_
    simp only [plus, Bool.not_or]
    rw [Bool.and_comm]
  rw [e1]
  have key : ∀ {m : List Ev} {k : Nat}, Srt m → (m.filter fun e => !(m.take k).any fun x => decide (dotOf x = dotOf e)) = m.drop k := by
    intro m
    induction m with
    | nil => intro k _; simp
    | cons y m ih =>
      intro k hm
      have hm' := List.pairwise_cons.1 hm
      cases k with
      | zero => simp
      | succ k =>
        simp only [List.take_succ_cons, List.drop_succ_cons, List.filter_cons, List.any_cons]
        rw [if_neg (by simp)]
        rw [← ih (k := k) hm'.2]
        refine List.filter_congr fun e he => ?_
        have : dotOf y ≠ dotOf e := fun hh => by have := hm'.1 e he; rw [hh, bef_irr] at this; cases this
        simp [this]
  exact key hsr
end Go.Proofs.Ytedcgfcmhaeldaa.B
