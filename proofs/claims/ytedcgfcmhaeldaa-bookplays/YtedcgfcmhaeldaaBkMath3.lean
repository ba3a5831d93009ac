/- The plain mathematics of layer 8: what stands for what, the greatest number, pieces of what is newer. -/
import Derived.Test.YtedcgfcmhaeldaaBkMath2
namespace Go.Proofs.Ytedcgfcmhaeldaa.B
set_option linter.unusedVariables false
set_option linter.unusedSimpArgs false
open Go.Proofs.Ytedcgfcmhaeldaa.D (Dot may bef lst)
open Go.Proofs.Ytedcgfcmhaeldaa.E (Ev right)

/-- Is it of a workload's policy? -/
def ofPol (work : Int) (e : Ev) : Bool := !decide (e.1 3 = 1) && decide (e.1 4 = work)
def stD (b : Bk) (work : Int) : Dot → Bool := fun d => b.hold.any fun e => ofPol work e && (decide (d = dotOf e) || decide (d ∈ e.2))
def stL (b : Bk) (work : Int) : List Dot := lst (stD b work)
def stE (b : Bk) (work : Int) : Int := if 96 < (stL b work).length then 7 else 0
def stA (b : Bk) (work : Int) : List Dot := if stE b work = 0 then stL b work else []
theorem stD_iff {b : Bk} {work : Int} {d : Dot} : stD b work d = true ↔ ∃ e ∈ b.hold, ofPol work e = true ∧ (d = dotOf e ∨ d ∈ e.2) := by
  unfold stD
  rw [List.any_eq_true]
  simp
theorem stL_seen {b : Bk} (h : Ok b) {work : Int} {d : Dot} (hd : d ∈ stL b work) : b.saw d = true := by
  obtain ⟨e, he, _, h1⟩ := stD_iff.1 (D.mem_lst.1 hd).2
  rcases h1 with rfl | h1
  · exact h.seen e he
  · exact h.gone e he d h1
theorem stL_mem {b : Bk} (h : Ok b) {work : Int} {e : Ev} (he : e ∈ b.hold) (hp : ofPol work e = true) : dotOf e ∈ stL b work :=
  D.mem_lst.2 ⟨(right_may (h.rt e he)).1, stD_iff.2 ⟨e, he, hp, .inl rfl⟩⟩
theorem bef_key {a b : Dot} (ha : may a = true) (hb : may b = true) (h : D.key a < D.key b) : bef a b = true := by
  rw [D.may_iff] at ha hb
  unfold D.key at h
  rw [D.bef_iff]
  omega
/-- A Del of the last dot, at the last time. -/
def delF (work : Int) : Nat → Int := fun j => if j = 0 then 7 else if j = 1 then 96 else if j = 2 then 1099511627776 else if j = 3 then 3 else if j = 4 then work else 0
theorem del_right {b : Bk} (h : Ok b) {work : Int} (hw : 0 ≤ work ∧ work ≤ 7) (hs : b.saw (7, 96) = false) (hl : (stL b work).length ≤ 96) : right (delF work) (stL b work) = true := by
  have hd : dotOf (delF work, stL b work) = (7, 96) := rfl
  have hrem : E.rems (delF work) (stL b work) = true := by
    unfold E.rems
    rw [List.all_eq_true]
    intro i hi
    have hi := List.mem_range.1 hi
    unfold E.rem1
    rw [List.getElem?_eq_getElem hi]
    simp only [Bool.and_eq_true, Bool.or_eq_true, decide_eq_true_eq, Bool.not_eq_true', decide_eq_false_iff_not]
    have hm := List.getElem_mem hi
    refine ⟨⟨(D.mem_lst.1 hm).1, fun e => ?_⟩, ?_⟩
    · have : b.saw (7, 96) = true := by
        have h1 := stL_seen h hm
        rw [e] at h1
        exact h1
      rw [hs] at this; cases this
    · by_cases h0 : i = 0
      · exact .inl h0
      · right
        rw [List.getElem?_eq_getElem (show i - 1 < (stL b work).length by omega)]
        have hk := List.pairwise_iff_getElem.1 (D.pre_ord (stD b work) 768) (i - 1) i (by show i - 1 < (stL b work).length; omega) hi (by omega)
        exact bef_key (D.mem_lst.1 (List.getElem_mem (l := stL b work) (n := i - 1) (by omega))).1 (D.mem_lst.1 hm).1 hk
  unfold right E.headOk E.kindOk
  rw [hrem]
  have e3 : delF work 3 = 3 := rfl
  have m : may (delF work 0, delF work 1) = true := by show may (7, 96) = true; decide
  rw [m, e3]
  simp only [E.pz]
  simp [delF, hl, hw.1, hw.2]
theorem del_put' {b : Bk} (h : Ok b) {work : Int} {M : List Dot} (hM : ∀ e ∈ b.hold, ofPol work e = true → dotOf e ∈ M) : ((put b (delF work, M)).hold.filter (ofPol work)) = [(delF work, M)] := by
  have hs : Srt ((put b (delF work, M)).hold.filter (ofPol work)) := srt_filter _ (srt_put h.srt)
  refine srt_ext hs (List.pairwise_singleton _ _) fun e => ?_
  rw [List.mem_filter, mem_put]
  constructor
  · rintro ⟨he | ⟨he, _, hn⟩, hp⟩
    · rw [he]; exact List.mem_cons_self ..
    · exact absurd (hM e he hp) hn
  · intro he
    have he := List.mem_singleton.1 he
    subst he
    exact ⟨.inl rfl, by simp [ofPol, delF]⟩
theorem del_put {b : Bk} (h : Ok b) {work : Int} : ((put b (delF work, stL b work)).hold.filter (ofPol work)) = [(delF work, stL b work)] := del_put' h fun e he hp => stL_mem h he hp
def isSmp (e : Ev) : Bool := decide (e.1 3 = 1)
theorem ins_smp {e : Ev} (he : isSmp e = false) : ∀ l : List Ev, ((ins e l).filter isSmp) = l.filter isSmp
  | [] => by simp [ins, he]
  | x :: l => by
    unfold ins
    split
    · simp only [List.filter_cons, ins_smp he l]
    · simp [List.filter_cons, he]
theorem del_smp (b : Bk) (work : Int) (M : List Dot) : ((put b (delF work, M)).hold.filter isSmp).length ≤ (b.hold.filter isSmp).length := by
  show ((ins _ _).filter isSmp).length ≤ _
  rw [ins_smp (by simp [isSmp, delF]), List.filter_filter]
  have : ∀ (l : List Ev) (p : Ev → Bool), (l.filter fun x => isSmp x && p x).length ≤ (l.filter isSmp).length := by
    intro l p
    induction l with
    | nil => simp
    | cons x l ih =>
      simp only [List.filter_cons]
      cases isSmp x <;> cases p x <;> simp <;> omega
  exact this _ _
theorem del_time {b : Bk} (h : Ok b) (work : Int) (M : List Dot) : (put b (delF work, M)).time = 1099511627776 := by
  have := h.t1
  show max b.time (delF work 2) = _
  have e : delF work 2 = 1099511627776 := rfl
  rw [e]
  omega

/-! the greatest number of a node -/
def lastTo (S : Dot → Bool) (node : Int) : Nat → Int
  | 0 => 0
  | k + 1 => if S (node, (k : Int) + 1) then (k : Int) + 1 else lastTo S node k
def last (b : Bk) (node : Int) : Int := if 0 ≤ node ∧ node < 8 then lastTo b.saw node 96 else 0
theorem lastTo_in (S : Dot → Bool) (node : Int) : ∀ k : Nat, 0 ≤ lastTo S node k ∧ lastTo S node k ≤ k
  | 0 => by simp [lastTo]
  | k + 1 => by
    have := lastTo_in S node k
    unfold lastTo
    split <;> omega
theorem lastTo_congr {S T : Dot → Bool} {node : Int} (h : ∀ d, S d = T d) : ∀ k : Nat, lastTo S node k = lastTo T node k
  | 0 => rfl
  | k + 1 => by unfold lastTo; rw [h, lastTo_congr h k]
/-- It is the greatest one. -/
theorem lastTo_is {S : Dot → Bool} {node m : Int} : ∀ {k : Nat}, 0 ≤ m → m ≤ k → (m = 0 ∨ S (node, m) = true) → (∀ j : Int, m < j → j ≤ k → S (node, j) = false) → lastTo S node k = m
  | 0, h0, h1, _, _ => by simp [lastTo]; omega
  | k + 1, h0, h1, h2, h3 => by
    unfold lastTo
    by_cases hm : m = (k : Int) + 1
    · subst hm
      rcases h2 with h2 | h2
      · omega
      · rw [if_pos h2]
    · rw [if_neg (by rw [h3 _ (by omega) (by omega)]; simp)]
      exact lastTo_is (k := k) h0 (by omega) h2 (fun j h4 h5 => h3 j h4 (by omega))

/-! what is newer, in pieces -/
/-- What is known behind k pieces of p. -/
def known (b : Bk) (has : Dot → Bool) (p : Nat) : Nat → Dot → Bool
  | 0 => has
  | k + 1 => plus (known b has p k) ((news b (known b has p k)).take p)
theorem known_news {b : Bk} (h : Ok b) (has : Dot → Bool) (p : Nat) : ∀ k, news b (known b has p k) = (news b has).drop (k * p)
  | 0 => by simp [known]
  | k + 1 => by
    show news b (plus (known b has p k) ((news b (known b has p k)).take p)) = _
    rw [news_plus h, known_news h has p k, List.drop_drop]
    congr 1
    rw [Nat.add_mul]
    omega
theorem got_more {b : Bk} (h : Ok b) (has : Dot → Bool) (p k : Nat) : (news b has).take (k * p) ++ (news b (known b has p k)).take p = (news b has).take ((k + 1) * p) := by
  rw [known_news h, Nat.add_mul, Nat.one_mul, List.take_add]
theorem got_all (l : List Ev) {p k : Nat} (hp : 0 < p) (hk : l.length < k) : l.take (k * p) = l := by
  refine List.take_of_length_le ?_
  have : k * 1 ≤ k * p := Nat.mul_le_mul_left k hp
  omega
theorem plus_app (has : Dot → Bool) (l : List Ev) (e : Ev) (d : Dot) : plus has (l ++ [e]) d = (plus has l d || decide (dotOf e = d)) := by
  simp [plus, Bool.or_assoc]
end Go.Proofs.Ytedcgfcmhaeldaa.B
