/- The plain mathematics of layer 4 (frame): a body's frame, what bytes begin with, frames one behind the other. -/
import Derived.Test.YtfllebfegngdhaaDotMath
import Derived.Test.YtfllebfegngdhaaCrcArgs
namespace Go.Proofs.Ytfllebfegngdhaa.F

/-- The sum of bytes. -/
def sum (l : List Int) : Nat := C.more 0 (C.nats l)
/-- A sum in four bytes, the highest first. -/
def four (s : Nat) : List Int := [((s / 16777216 % 256 : Nat) : Int), ((s / 65536 % 256 : Nat) : Int), ((s / 256 % 256 : Nat) : Int), ((s % 256 : Nat) : Int)]
/-- What stands ahead of a frame's sum. -/
def ahead (b : List Int) : List Int := 1 :: (V.enc (b.length : Int) ++ b)
/-- A body's frame. -/
def put (b : List Int) : List Int := ahead b ++ four (sum (ahead b))

def start (l : List Int) : Nat := 1 + (V.int (l.drop 1)).2.1
def stop (l : List Int) : Nat := start l + (V.int (l.drop 1)).1.toNat
/-- What bytes begin with: the error, where the body begins and where it ends. -/
def get (l : List Int) : Int × Nat × Nat :=
  if l.length = 0 then (3, 0, 0) else if l[0]? ≠ some 1 then (4, 0, 0) else
  if (V.int (l.drop 1)).2.2 ≠ 0 then ((V.int (l.drop 1)).2.2, 0, 0) else
  if 4096 < (V.int (l.drop 1)).1 then (6, 0, 0) else
  if l.length < stop l + 4 then (3, 0, 0) else
  if (l.drop (stop l)).take 4 ≠ four (sum (l.take (stop l))) then (5, 0, 0) else (0, start l, stop l)
def body (l : List Int) : List Int := (l.drop (get l).2.1).take ((get l).2.2 - (get l).2.1)

section
variable {l : List Int}
theorem get_nil (h : l.length = 0) : get l = (3, 0, 0) := by unfold get; rw [if_pos h]
theorem get_form (h0 : 0 < l.length) (h : l[0]? ≠ some 1) : get l = (4, 0, 0) := by unfold get; rw [if_neg (by omega), if_pos h]
theorem get_int (h0 : 0 < l.length) (h : l[0]? = some 1) (h2 : (V.int (l.drop 1)).2.2 ≠ 0) : get l = ((V.int (l.drop 1)).2.2, 0, 0) := by
  unfold get; rw [if_neg (by omega), if_neg (by simp [h]), if_pos h2]
theorem get_long (h0 : 0 < l.length) (h : l[0]? = some 1) (h2 : (V.int (l.drop 1)).2.2 = 0) (h3 : 4096 < (V.int (l.drop 1)).1) : get l = (6, 0, 0) := by
  unfold get; rw [if_neg (by omega), if_neg (by simp [h]), if_neg (fun k => k h2), if_pos h3]
theorem get_short (h0 : 0 < l.length) (h : l[0]? = some 1) (h2 : (V.int (l.drop 1)).2.2 = 0) (h3 : ¬ 4096 < (V.int (l.drop 1)).1) (h4 : l.length < stop l + 4) : get l = (3, 0, 0) := by
  unfold get; rw [if_neg (by omega), if_neg (by simp [h]), if_neg (fun k => k h2), if_neg h3, if_pos h4]
theorem get_sum (h0 : 0 < l.length) (h : l[0]? = some 1) (h2 : (V.int (l.drop 1)).2.2 = 0) (h3 : ¬ 4096 < (V.int (l.drop 1)).1) (h4 : ¬ l.length < stop l + 4)
    (h5 : (l.drop (stop l)).take 4 ≠ four (sum (l.take (stop l)))) : get l = (5, 0, 0) := by
  unfold get; rw [if_neg (by omega), if_neg (by simp [h]), if_neg (fun k => k h2), if_neg h3, if_neg h4, if_pos h5]
theorem get_ok (h0 : 0 < l.length) (h : l[0]? = some 1) (h2 : (V.int (l.drop 1)).2.2 = 0) (h3 : ¬ 4096 < (V.int (l.drop 1)).1) (h4 : ¬ l.length < stop l + 4)
    (h5 : (l.drop (stop l)).take 4 = four (sum (l.take (stop l)))) : get l = (0, start l, stop l) := by
  unfold get; rw [if_neg (by omega), if_neg (by simp [h]), if_neg (fun k => k h2), if_neg h3, if_neg h4, if_neg (fun k => k h5)]
theorem get_good (h : (get l).1 = 0) : get l = (0, start l, stop l) ∧ 0 < l.length ∧ stop l + 4 ≤ l.length ∧ (V.int (l.drop 1)).1 ≤ 4096 ∧ l[0]? = some 1 ∧ (V.int (l.drop 1)).2.2 = 0 := by
  by_cases h0 : l.length = 0
  · rw [get_nil h0] at h; simp at h
  by_cases h1 : l[0]? = some 1
  · by_cases h2 : (V.int (l.drop 1)).2.2 = 0
    · by_cases h3 : 4096 < (V.int (l.drop 1)).1
      · rw [get_long (by omega) h1 h2 h3] at h; simp at h
      · by_cases h4 : l.length < stop l + 4
        · rw [get_short (by omega) h1 h2 h3 h4] at h; simp at h
        · by_cases h5 : (l.drop (stop l)).take 4 = four (sum (l.take (stop l)))
          · exact ⟨get_ok (by omega) h1 h2 h3 h4 h5, by omega, by omega, by omega, h1, h2⟩
          · rw [get_sum (by omega) h1 h2 h3 h4 h5] at h; simp at h
    · rw [get_int (by omega) h1 h2] at h; exact absurd h h2
  · rw [get_form (by omega) h1] at h; simp at h
theorem get_bad (h : (get l).1 ≠ 0) : (get l).2 = (0, 0) := by
  by_cases h0 : l.length = 0
  · rw [get_nil h0]
  by_cases h1 : l[0]? = some 1
  · by_cases h2 : (V.int (l.drop 1)).2.2 = 0
    · by_cases h3 : 4096 < (V.int (l.drop 1)).1
      · rw [get_long (by omega) h1 h2 h3]
      · by_cases h4 : l.length < stop l + 4
        · rw [get_short (by omega) h1 h2 h3 h4]
        · by_cases h5 : (l.drop (stop l)).take 4 = four (sum (l.take (stop l)))
          · rw [get_ok (by omega) h1 h2 h3 h4 h5] at h; exact absurd rfl h
          · rw [get_sum (by omega) h1 h2 h3 h4 h5]
    · rw [get_int (by omega) h1 h2]
  · rw [get_form (by omega) h1]
end

theorem start_le (l : List Int) : start l ≤ stop l := by unfold stop; omega
theorem body_len {l : List Int} (h : (get l).1 = 0) : (body l).length = stop l - start l := by
  obtain ⟨e, _, h2, _⟩ := get_good h
  unfold body
  rw [e]
  have := start_le l
  simp; omega

/-- The number of four bytes, the highest first. -/
theorem four_num {a b c d s : Nat} (ha : a < 256) (hb : b < 256) (hc : c < 256) (hd : d < 256) (hs : s < 4294967296) :
    four s = [(a : Int), (b : Int), (c : Int), (d : Int)] ↔ ((a * 256 + b) * 256 + c) * 256 + d = s := by
  unfold four
  constructor
  · intro h
    injection h with h1 h
    injection h with h2 h
    injection h with h3 h
    injection h with h4 h
    omega
  · intro h
    subst h
    congr 1
    · omega
    · congr 1
      · omega
      · congr 1
        · omega
        · congr 1
          omega
theorem four_inj {s t : Nat} (hs : s < 4294967296) (ht : t < 4294967296) (h : four s = four t) : s = t := by
  have := (four_num (a := t / 16777216 % 256) (b := t / 65536 % 256) (c := t / 256 % 256) (d := t % 256) (by omega) (by omega) (by omega) (by omega) hs).1 h
  omega
theorem sum_lt {l : List Int} (h : Byt l) : sum l < 4294967296 := C.more_lt (by omega) (small_nats h)
theorem four_len (s : Nat) : (four s).length = 4 := rfl
theorem four_byt (s : Nat) : Byt (four s) := by
  intro c hc
  unfold four at hc
  simp at hc
  omega
theorem enc_byt {b : List Int} (h : b.length ≤ 1000000) : Byt (V.enc (b.length : Int)) := V.enc_byt6 (by omega) (by omega)
theorem ahead_byt {b : List Int} (hb : Byt b) (h : b.length ≤ 1000000) : Byt (ahead b) := by
  intro c hc
  unfold ahead at hc
  rcases List.mem_cons.1 hc with rfl | hc
  · omega
  · rcases List.mem_append.1 hc with h1 | h1
    · exact enc_byt h c h1
    · exact hb c h1
theorem put_byt {b : List Int} (hb : Byt b) (h : b.length ≤ 1000000) : Byt (put b) := (ahead_byt hb h).app (four_byt _)
theorem ahead_len (b : List Int) : (ahead b).length = 1 + (V.enc (b.length : Int)).length + b.length := by unfold ahead; simp; omega
theorem put_len (b : List Int) : (put b).length = 1 + (V.enc (b.length : Int)).length + b.length + 4 := by unfold put; rw [List.length_append, ahead_len, four_len]
theorem put_len_le {b : List Int} (h : b.length ≤ 1000000) : (put b).length ≤ b.length + 11 := by
  have := V.enc_len6 (n := (b.length : Int)) (by omega)
  rw [put_len]; omega

/-- Whatever begins with a number of at most 4096: where its body lies. -/
theorem head_at {b r : List Int} (h : b.length ≤ 4096) (l : List Int) (hl : l = 1 :: (V.enc (b.length : Int) ++ r)) :
    0 < l.length ∧ l[0]? = some 1 ∧ V.int (l.drop 1) = ((b.length : Int), (V.enc (b.length : Int)).length, 0) ∧ start l = 1 + (V.enc (b.length : Int)).length ∧ stop l = 1 + (V.enc (b.length : Int)).length + b.length := by
  subst hl
  have e : V.int ((1 :: (V.enc (b.length : Int) ++ r)).drop 1) = ((b.length : Int), (V.enc (b.length : Int)).length, 0) := V.int_enc (by omega) (by omega) r
  refine ⟨by simp, rfl, e, ?_, ?_⟩
  · unfold start; rw [e]
  · unfold stop start; rw [e]; simp

/-- What is put is got, whatever stands behind. -/
theorem get_put {b : List Int} (r : List Int) (h : b.length ≤ 4096) :
    get (put b ++ r) = (0, 1 + (V.enc (b.length : Int)).length, 1 + (V.enc (b.length : Int)).length + b.length) ∧ body (put b ++ r) = b ∧ (put b ++ r).drop (1 + (V.enc (b.length : Int)).length + b.length + 4) = r := by
  have hl : put b ++ r = 1 :: (V.enc (b.length : Int) ++ (b ++ four (sum (ahead b)) ++ r)) := by unfold put; rw [show ahead b = 1 :: (V.enc (b.length : Int) ++ b) from rfl]; simp
  obtain ⟨h0, h1, h2, h3, h4⟩ := head_at (b := b) h _ hl
  have hal := ahead_len b
  have e1 : (put b ++ r).take (1 + (V.enc (b.length : Int)).length + b.length) = ahead b := by
    rw [← hal, show put b ++ r = ahead b ++ (four (sum (ahead b)) ++ r) by unfold put; simp, List.take_left']
    rfl
  have e2 : (put b ++ r).drop (1 + (V.enc (b.length : Int)).length + b.length) = four (sum (ahead b)) ++ r := by
    rw [← hal, show put b ++ r = ahead b ++ (four (sum (ahead b)) ++ r) by unfold put; simp, List.drop_left']
    rfl
  have hpl := put_len b
  have hg : get (put b ++ r) = (0, 1 + (V.enc (b.length : Int)).length, 1 + (V.enc (b.length : Int)).length + b.length) := by
    rw [← h4, ← h3]
    refine get_ok h0 h1 (by rw [h2]) (by rw [h2]; simp; omega) (by rw [h4, List.length_append, hpl]; omega) ?_
    rw [h4, e1, e2]; rfl
  refine ⟨hg, ?_, ?_⟩
  · unfold body
    rw [hg]
    simp only
    rw [hl, show 1 + (V.enc (b.length : Int)).length = (V.enc (b.length : Int)).length + 1 by omega, List.drop_succ_cons, List.drop_left', show (V.enc (b.length : Int)).length + 1 + b.length - ((V.enc (b.length : Int)).length + 1) = b.length by omega, List.append_assoc, List.take_left']
    · rfl
    · rfl
  · rw [← List.drop_drop, e2]; rfl

/-- A number cut short is none. -/
theorem int_torn {m : Int} (h0 : 0 ≤ m) (h1 : m ≤ 1099511627776) {k : Nat} (hk : k < (V.enc m).length) : (V.int ((V.enc m).take k)).2.2 ≠ 0 := by
  intro h
  have hb : ∀ b ∈ (V.enc m).take k, 0 ≤ b ∧ b < 256 := fun b hb => V.enc_byt6 h0 h1 b (List.mem_of_mem_take hb)
  obtain ⟨e, h2, h3, h4⟩ := V.int_back hb h
  revert e h2 h3 h4
  generalize V.int ((V.enc m).take k) = R
  intro e h2 h3 h4
  have e1 : V.enc m = V.enc R.1 ++ (((V.enc m).take k).drop R.2.1 ++ (V.enc m).drop k) := by
    rw [← List.append_assoc, ← e, List.take_append_drop]
  have i1 := V.int_enc h0 h1 []
  have i2 := V.int_enc h3 h4 (((V.enc m).take k).drop R.2.1 ++ (V.enc m).drop k)
  rw [← e1] at i2
  rw [List.append_nil, i2] at i1
  have e2 : (V.enc R.1).length = (V.enc m).length := congrArg (fun x => x.2.1) i1
  have e3 := congrArg List.length e
  rw [List.length_append, List.length_take] at e3
  omega

/-- A frame cut anywhere is none. -/
theorem get_torn {b : List Int} (h : b.length ≤ 4096) {k : Nat} (hk : k < (put b).length) : (get ((put b).take k)).1 ≠ 0 := by
  have hpl := put_len b
  intro hg
  obtain ⟨e, h0, h1, h2, h3, h4⟩ := get_good hg
  have hlen : ((put b).take k).length = k := by simp; omega
  rw [hlen] at h0 h1
  obtain ⟨j, rfl⟩ : ∃ j, k = j + 1 := ⟨k - 1, by omega⟩
  have hd : ((put b).take (j + 1)).drop 1 = (V.enc (b.length : Int) ++ (b ++ four (sum (ahead b)))).take j := by
    unfold put
    rw [show ahead b = 1 :: (V.enc (b.length : Int) ++ b) from rfl]
    simp
  by_cases hj : j < (V.enc (b.length : Int)).length
  · rw [hd, List.take_append_of_le_length (by omega)] at h4
    exact int_torn (by omega) (by omega) hj h4
  · have hd2 : (put b).take (j + 1) = 1 :: (V.enc (b.length : Int) ++ (b ++ four (sum (ahead b))).take (j - (V.enc (b.length : Int)).length)) := by
      unfold put
      rw [show ahead b = 1 :: (V.enc (b.length : Int) ++ b) from rfl]
      rw [List.cons_append, List.take_succ_cons, List.append_assoc, List.take_append, List.take_of_length_le (by omega)]
    obtain ⟨_, _, _, _, h5⟩ := head_at (b := b) h _ hd2
    rw [h5] at h1
    omega

/-! ### frames one behind the other -/
def all (l : List Int) : List (List Int) × Nat :=
  if h : (get l).1 = 0 then (body l :: (all (l.drop ((get l).2.2 + 4))).1, (get l).2.2 + 4 + (all (l.drop ((get l).2.2 + 4))).2) else ([], 0)
termination_by l.length
decreasing_by
  all_goals
    have := (get_good h).2.1
    simp; omega
theorem all_yes {l : List Int} (h : (get l).1 = 0) : all l = (body l :: (all (l.drop ((get l).2.2 + 4))).1, (get l).2.2 + 4 + (all (l.drop ((get l).2.2 + 4))).2) := by
  rw [all, dif_pos h]
theorem all_no {l : List Int} (h : (get l).1 ≠ 0) : all l = ([], 0) := by rw [all, dif_neg h]
/-- A round of the loop: the frames so far, and what the rest comes to. -/
theorem all_more {l : List Int} {pre : List (List Int)} {n : Nat} (H : all l = (pre ++ (all (l.drop n)).1, n + (all (l.drop n)).2)) (h : (get (l.drop n)).1 = 0) :
    all l = ((pre ++ [body (l.drop n)]) ++ (all (l.drop (n + ((get (l.drop n)).2.2 + 4)))).1, (n + ((get (l.drop n)).2.2 + 4)) + (all (l.drop (n + ((get (l.drop n)).2.2 + 4)))).2) := by
  rw [H, all_yes h, List.drop_drop]
  simp [Nat.add_assoc]
theorem all_end {l : List Int} {pre : List (List Int)} {n : Nat} (H : all l = (pre ++ (all (l.drop n)).1, n + (all (l.drop n)).2)) (h : (get (l.drop n)).1 ≠ 0) : all l = (pre, n) := by
  rw [H, all_no h]; simp
theorem all_small (l : List Int) : ∀ x ∈ (all l).1, x.length ≤ 4096 := by
  suffices H : ∀ k (l : List Int), l.length ≤ k → ∀ x ∈ (all l).1, x.length ≤ 4096 from H _ l (Nat.le_refl _)
  intro k
  induction k with
  | zero =>
    intro l hl x hx
    rw [all_no (by rw [get_nil (by omega)]; decide)] at hx
    simp at hx
  | succ k ih =>
    intro l hl x hx
    by_cases h : (get l).1 = 0
    · rw [all_yes h] at hx
      obtain ⟨e, g0, g1, g2, _⟩ := get_good h
      rcases List.mem_cons.1 hx with rfl | hx
      · rw [body_len h]; unfold stop; omega
      · exact ih _ (by simp; omega) x hx
    · rw [all_no h] at hx; simp at hx

/-- Frames one behind the other. -/
def cat (bs : List (List Int)) : List Int := bs.flatMap put
theorem cat_snoc (bs : List (List Int)) (b : List Int) : cat (bs ++ [b]) = cat bs ++ put b := by simp [cat]
theorem cat_cons (bs : List (List Int)) (b : List Int) : cat (b :: bs) = put b ++ cat bs := by simp [cat]
/-- How many of them are whole within k bytes. -/
def whole : List (List Int) → Nat → Nat
  | [], _ => 0
  | b :: t, k => if (put b).length ≤ k then 1 + whole t (k - (put b).length) else 0
theorem whole_le (bs : List (List Int)) : ∀ k, whole bs k ≤ bs.length := by
  induction bs with
  | nil => intro k; simp [whole]
  | cons b t ih =>
    intro k
    unfold whole
    split
    · have := ih (k - (put b).length); simp; omega
    · simp
theorem whole_at (bs : List (List Int)) : ∀ (k i : Nat), i < bs.length → ((cat (bs.take (i + 1))).length ≤ k ↔ i < whole bs k) := by
  induction bs with
  | nil => intro k i hi; simp at hi
  | cons b t ih =>
    intro k i hi
    rw [List.take_succ_cons, cat_cons, List.length_append]
    unfold whole
    rcases i with _ | i
    · simp [cat]
      split <;> omega
    · have := ih (k - (put b).length) i (by simpa using hi)
      split <;> omega
theorem all_cat (bs : List (List Int)) : ∀ k, (∀ b ∈ bs, b.length ≤ 4096) → all ((cat bs).take k) = (bs.take (whole bs k), (cat (bs.take (whole bs k))).length) := by
  induction bs with
  | nil =>
    intro k _
    rw [show (cat []).take k = [] by simp [cat], all_no (by rw [get_nil rfl]; decide)]
    simp [whole, cat]
  | cons b t ih =>
    intro k h
    have hb := h b (by simp)
    have hpl := put_len b
    rw [cat_cons]
    unfold whole
    by_cases hk : (put b).length ≤ k
    · rw [if_pos hk, List.take_append, List.take_of_length_le hk]
      obtain ⟨e1, e2, e3⟩ := get_put ((cat t).take (k - (put b).length)) hb
      rw [all_yes (by rw [e1]), e2, e1]
      simp only
      rw [e3, ih _ fun x hx => h x (by simp [hx])]
      simp only [Nat.add_comm 1, List.take_succ_cons, cat_cons, List.length_append, hpl]
    · rw [if_neg hk, List.take_append_of_le_length (by omega), all_no (get_torn hb (by omega))]
      simp [cat]

/-! ### one byte turned -/
theorem sum_turned {l : List Int} {i : Nat} {x : Int} (hb : Byt l) (hi : i < l.length) (hx : 0 ≤ x ∧ x < 256) (hne : x ≠ l[i]) : sum (l.set i x) ≠ sum l := by
  have e1 : l.set i x = l.take i ++ x :: l.drop (i + 1) := List.set_eq_take_append_cons_drop.trans (by rw [if_pos hi])
  have e2 : l = l.take i ++ l[i] :: l.drop (i + 1) := by rw [← List.drop_eq_getElem_cons hi, List.take_append_drop]
  intro h
  have h' : sum (l.take i ++ x :: l.drop (i + 1)) = sum (l.take i ++ l[i] :: l.drop (i + 1)) := by rw [← e1, ← e2]; exact h
  unfold sum C.nats at h'
  rw [List.map_append, List.map_append, List.map_cons, List.map_cons] at h'
  have hli := hb.at hi
  exact C.turn_one (by omega) (small_nats (hb.take i)) (small_nats (hb.drop (i + 1))) (by omega) (by omega) (by omega) h'

theorem get_turned {b : List Int} (hb : Byt b) (h : b.length ≤ 4096) {i : Nat} {x : Int} (hi : i < (put b).length) (hx : 0 ≤ x ∧ x < 256) (hne : x ≠ (put b)[i]) (hl : i = 0 ∨ 1 + (V.enc (b.length : Int)).length ≤ i) :
    (get ((put b).set i x)).1 ≠ 0 := by
  have hpl := put_len b
  have hal := ahead_len b
  rcases hl with rfl | hl
  · rw [get_form]
    · decide
    · simp [hpl]
    · have e : (put b)[0]'hi = 1 := by unfold put ahead; simp
      rw [e] at hne
      rw [List.getElem?_set_self (by omega)]
      simpa using hne
  · intro hg
    obtain ⟨m, hm⟩ : ∃ m, (put b).set i x = 1 :: (V.enc (b.length : Int) ++ m) := by
      refine ⟨(b ++ four (sum (ahead b))).set (i - (1 + (V.enc (b.length : Int)).length)) x, ?_⟩
      obtain ⟨j, rfl⟩ : ∃ j, i = j + 1 := ⟨i - 1, by omega⟩
      unfold put
      rw [show ahead b = 1 :: (V.enc (b.length : Int) ++ b) from rfl, List.cons_append, List.set_cons_succ, List.append_assoc, List.set_append_right _ _ (by omega)]
      congr 3
      omega
    obtain ⟨h0, h1, h2, h3, h4⟩ := head_at (b := b) h _ hm
    obtain ⟨e, _, g1, g2, _, _⟩ := get_good hg
    have key : ((((put b).set i x).drop (stop ((put b).set i x))).take 4 = four (sum (((put b).set i x).take (stop ((put b).set i x))))) := by
      by_cases h5 : (((put b).set i x).drop (stop ((put b).set i x))).take 4 = four (sum (((put b).set i x).take (stop ((put b).set i x))))
      · exact h5
      · rw [get_sum h0 h1 (by rw [h2]) (by rw [h2]; simp; omega) (by omega) h5] at hg
        simp at hg
    rw [h4, ← hal] at key
    by_cases hia : i < (ahead b).length
    · have e1 : (put b).set i x = (ahead b).set i x ++ four (sum (ahead b)) := by unfold put; rw [List.set_append_left _ _ hia]
      have hsl : ((ahead b).set i x).length = (ahead b).length := by simp
      rw [e1, ← hsl, List.take_left', List.drop_left'] at key
      · rw [List.take_of_length_le (by simp [four_len])] at key
        have hB := ahead_byt hb (by omega)
        have hB2 : Byt ((ahead b).set i x) := fun c hc => by
          rcases List.mem_or_eq_of_mem_set hc with h | h
          · exact hB c h
          · omega
        have hs := four_inj (sum_lt hB) (sum_lt hB2) key
        refine sum_turned hB hia hx ?_ hs.symm
        intro hxe
        apply hne
        rw [hxe]
        exact (List.getElem_append_left (bs := four (sum (ahead b))) hia).symm
      · rfl
      · rfl
    · have e1 : (put b).set i x = ahead b ++ (four (sum (ahead b))).set (i - (ahead b).length) x := by unfold put; rw [List.set_append_right _ _ (by omega)]
      rw [e1, List.take_left', List.drop_left'] at key
      · rw [List.take_of_length_le (by simp [four_len])] at key
        apply hne
        have hj : i - (ahead b).length < (four (sum (ahead b))).length := by rw [four_len]; omega
        have e2 : ((four (sum (ahead b))).set (i - (ahead b).length) x)[i - (ahead b).length]? = (four (sum (ahead b)))[i - (ahead b).length]? := by rw [key]
        rw [List.getElem?_set_self hj, List.getElem?_eq_getElem hj] at e2
        injection e2 with e2
        rw [e2]
        exact (List.getElem_append_right (by omega : (ahead b).length ≤ i)).symm
      · rfl
      · rfl

/-- A number's reader looks at six bytes alone. -/
theorem num_take (k : Nat) : ∀ (l : List Int) (i : Nat) (n : Int) (j : Nat), k ≤ j → V.num k (l.take j) i n = V.num k l i n := by
  induction k with
  | zero => intro l i n j _; rfl
  | succ k ih =>
    intro l i n j hj
    cases l with
    | nil => simp
    | cons c t =>
      obtain ⟨j, rfl⟩ : ∃ m, j = m + 1 := ⟨j - 1, by omega⟩
      rw [List.take_succ_cons, V.num, V.num, ih t _ _ j (by omega)]
theorem int_take (l : List Int) (j : Nat) (h : 6 ≤ j) : V.int (l.take j) = V.int l := num_take 6 l 0 0 j h
theorem int_len (l : List Int) : (V.int l).2.1 ≤ 6 := by
  have := V.int_size (l.take 6)
  rw [int_take l 6 (by omega)] at this
  simp at this; omega
end Go.Proofs.Ytfllebfegngdhaa.F
