/- Layer 14: records on a disk, as plain mathematics. -/
import Derived.Test.YtfllebfegngdhaaFrameMath
import Derived.Test.YtfllebfegngdhaaDkStp
namespace Go.Proofs.Ytfllebfegngdhaa
set_option linter.unusedVariables false
set_option linter.unusedSimpArgs false

namespace F
theorem all_le (l : List Int) : (all l).2 ≤ l.length := by
  suffices H : ∀ k (l : List Int), l.length ≤ k → (all l).2 ≤ l.length from H _ l (Nat.le_refl _)
  intro k
  induction k with
  | zero => intro l hl; rw [all_no (by rw [get_nil (by omega)]; decide)]; simp
  | succ k ih =>
    intro l hl
    by_cases h : (get l).1 = 0
    · rw [all_yes h]
      obtain ⟨e, g0, g1, _⟩ := get_good h
      rw [e]
      have := ih (l.drop (stop l + 4)) (by simp; omega)
      simp only [List.length_drop] at this
      simp only
      omega
    · rw [all_no h]; simp
/-- A frame that bytes begin with is its body's frame. -/
theorem get_put_back {l : List Int} (hb : Byt l) (h : (get l).1 = 0) : l.take (stop l + 4) = put (body l) := by
  obtain ⟨e, g0, g1, g2, g3, g4⟩ := get_good h
  have h5 : (l.drop (stop l)).take 4 = four (sum (l.take (stop l))) := by
    by_cases h5 : (l.drop (stop l)).take 4 = four (sum (l.take (stop l)))
    · exact h5
    · rw [get_sum g0 g3 g4 (by omega) (by omega) h5] at h; simp at h
  obtain ⟨i1, i2, i3, i4⟩ := V.int_back (l := l.drop 1) (hb.drop 1) g4
  have hbl := body_len h
  have hst := start_le l
  obtain ⟨c, t, rfl⟩ : ∃ c t, l = c :: t := by
    cases l with
    | nil => simp at g0
    | cons c t => exact ⟨c, t, rfl⟩
  simp only [List.getElem?_cons_zero, Option.some.injEq] at g3
  subst g3
  simp only [List.drop_succ_cons, List.drop_zero] at i1 i2 i3 i4 g2 g4
  have hs1 : start (1 :: t) = 1 + (V.int t).2.1 := rfl
  have hs2 : stop (1 :: t) = 1 + (V.int t).2.1 + (V.int t).1.toNat := rfl
  have hn : ((body (1 :: t)).length : Int) = (V.int t).1 := by rw [hbl]; omega
  have ha : (1 :: t).take (stop (1 :: t)) = ahead (body (1 :: t)) := by
    have hbd : body (1 :: t) = (t.drop (V.int t).2.1).take (V.int t).1.toNat := by
      unfold body
      rw [e]
      simp only
      rw [hs1, hs2, Nat.add_comm 1, List.drop_succ_cons]
      congr 1
      omega
    unfold ahead
    rw [hn, hs2, show 1 + (V.int t).2.1 + (V.int t).1.toNat = ((V.int t).2.1 + (V.int t).1.toNat) + 1 by omega, List.take_succ_cons]
    congr 1
    rw [List.take_add, hbd]
    congr 1
    have := congrArg (List.take (V.int t).2.1) i1
    rw [this, List.take_left' i2.symm]
  unfold put
  rw [List.take_add, ha, h5, ha]
/-- What frames have is those frames. -/
theorem all_back {l : List Int} (hb : Byt l) : l.take (all l).2 = cat (all l).1 := by
  suffices H : ∀ k (l : List Int), Byt l → l.length ≤ k → l.take (all l).2 = cat (all l).1 from H _ l hb (Nat.le_refl _)
  intro k
  induction k with
  | zero => intro l _ hl; rw [all_no (by rw [get_nil (by omega)]; decide)]; simp [cat]
  | succ k ih =>
    intro l hb hl
    by_cases h : (get l).1 = 0
    · rw [all_yes h]
      obtain ⟨e, g0, g1, _⟩ := get_good h
      have hpb := get_put_back hb h
      rw [e]
      have := ih (l.drop (stop l + 4)) (hb.drop _) (by simp; omega)
      simp only
      rw [cat_cons, List.take_add, hpb, this]
    · rw [all_no h]; simp [cat]
theorem whole_all (bs : List (List Int)) : ∀ k, (cat bs).length ≤ k → whole bs k = bs.length := by
  induction bs with
  | nil => intro k _; rfl
  | cons b t ih =>
    intro k h
    rw [cat_cons, List.length_append] at h
    unfold whole
    rw [if_pos (by omega), ih _ (by omega)]
    simp; omega
theorem all_of_cat {bs : List (List Int)} (h : ∀ b ∈ bs, b.length ≤ 4096) : all (cat bs) = (bs, (cat bs).length) := by
  have := all_cat bs (cat bs).length h
  rw [List.take_length, whole_all bs _ (Nat.le_refl _), List.take_length] at this
  exact this
/-- Frames, and a part of one more. -/
theorem all_part {bs : List (List Int)} {b : List Int} (h : ∀ x ∈ bs, x.length ≤ 4096) (hb : b.length ≤ 4096) {k : Nat} (hk : k < (put b).length) : all (cat bs ++ (put b).take k) = (bs, (cat bs).length) := by
  induction bs with
  | nil => simp only [cat, List.flatMap_nil, List.nil_append]; rw [all_no (get_torn hb hk)]; simp
  | cons x t ih =>
    rw [cat_cons, List.append_assoc]
    obtain ⟨e1, e2, e3⟩ := get_put (cat t ++ (put b).take k) (h x (by simp))
    rw [all_yes (by rw [e1]), e2, e1]
    simp only
    rw [e3, ih fun y hy => h y (by simp [hy])]
    have := put_len x
    simp [this]
theorem cat_byt {bs : List (List Int)} (h : ∀ b ∈ bs, b.length ≤ 4096 ∧ Byt b) : Byt (cat bs) := by
  intro c hc
  unfold cat at hc
  obtain ⟨b, hb, hc⟩ := List.mem_flatMap.1 hc
  exact put_byt (h b hb).2 (by have := (h b hb).1; omega) c hc
end F

/-- Bytes are bytes, those that wait, too. -/
def Dk.U.byt : Dk.U → Prop | .b c => 0 ≤ c ∧ c < 256 | .s xs => Byt xs
structure Lg.By (L : List Int) (us : List Dk.U) : Prop where
  l : Byt L
  u : ∀ x ∈ us, x.byt
theorem Dk.app_byt {L : List Int} {x : Dk.U} (h : Byt L) (hx : x.byt) : Byt (Dk.app L x) := by
  cases x with
  | b c => exact h.app (fun y hy => by simp at hy; subst hy; exact hx)
  | s xs => exact hx
theorem Lg.By.aft {L : List Int} {us : List Dk.U} (h : Lg.By L us) : Byt (Dk.aft L us) := by
  obtain ⟨h1, h2⟩ := h
  induction us generalizing L with
  | nil => exact h1
  | cons x t ih => exact ih (Dk.app_byt h1 (h2 x (by simp))) fun y hy => h2 y (by simp [hy])
theorem Lg.By.take {L : List Int} {us : List Dk.U} (h : Lg.By L us) (n : Nat) : Lg.By L (us.take n) := ⟨h.l, fun x hx => h.u x (List.mem_of_mem_take hx)⟩
theorem Lg.By.new {L : List Int} (h : Byt L) : Lg.By L [] := ⟨h, fun x hx => by simp at hx⟩
theorem Lg.By.bytes {L : List Int} {us : List Dk.U} (h : Lg.By L us) {xs : List Int} (hx : Byt xs) : Lg.By L (us ++ xs.map .b) := ⟨h.l, fun x hm => by
  rcases List.mem_append.1 hm with hm | hm
  · exact h.u x hm
  · obtain ⟨c, hc, rfl⟩ := List.mem_map.1 hm; exact hx c hc⟩
theorem Lg.By.swap {L : List Int} {us : List Dk.U} (h : Lg.By L us) {xs : List Int} (hx : Byt xs) : Lg.By L (us ++ [.s xs]) := ⟨h.l, fun x hm => by
  rcases List.mem_append.1 hm with hm | hm
  · exact h.u x hm
  · simp at hm; subst hm; exact hx⟩
theorem Lg.By.apU {L : List Int} {us : List Dk.U} (h : Lg.By L us) (Z : Int) {xs : List Int} (hx : Byt xs) : Lg.By L (Dk.apU Z L us xs) := by
  unfold Dk.apU; split
  · exact h
  · exact h.bytes hx
theorem Lg.By.swU {L : List Int} {us : List Dk.U} (h : Lg.By L us) (Z : Int) {xs : List Int} (hx : Byt xs) : Lg.By L (Dk.swU Z us xs) := by
  unfold Dk.swU; split
  · exact h
  · exact h.swap hx

/-- What Write answers, and the disk behind it. -/
def Lg.wrt (Z : Int) (L : List Int) (us : List Dk.U) (xs : List Int) : Int × List Int × List Dk.U :=
  if 4096 < xs.length then (6, L, us) else if Z < ((Dk.aft L us).length : Int) + (F.put xs).length then (7, L, us) else (0, Dk.aft L us ++ F.put xs, [])
/-- Behind Mend. -/
def Lg.mnd (L : List Int) (us : List Dk.U) : List Int × List Dk.U :=
  if (F.all (Dk.aft L us)).2 < (Dk.aft L us).length then ((Dk.aft L us).take (F.all (Dk.aft L us)).2, []) else (L, us)
def Lg.torn (L : List Int) (us : List Dk.U) : Bool := decide ((F.all (Dk.aft L us)).2 < (Dk.aft L us).length)
/-- Does each of these bodies have a frame? -/
def Lg.fit (bs : List (List Int)) : Bool := bs.all fun b => decide (b.length ≤ 4096)
def Lg.rwr (Z : Int) (L : List Int) (us : List Dk.U) (bs : List (List Int)) : Int × List Int × List Dk.U :=
  if Lg.fit bs = true then if Z < ((F.cat bs).length : Int) then (7, L, us) else (0, F.cat bs, []) else (6, L, us)
section
variable {Z : Int} {L : List Int} {us : List Dk.U}
theorem Dk.Ok.aft {Z : Int} {L : List Int} {us : List Dk.U} (h : Dk.Ok Z L us) : Dk.Ok Z (Dk.aft L us) [] := by
  have := h.crash us.length
  rwa [List.take_length] at this
theorem Dk.Ok.of_len {Z : Int} {L M : List Int} {us : List Dk.U} (h : Dk.Ok Z L us) (hm : (M.length : Int) ≤ Z) : Dk.Ok Z M [] := ⟨h.lo, h.hi, fun n => by simpa [Dk.aft] using hm⟩
theorem Lg.wrt_ok (h : Dk.Ok Z L us) (xs : List Int) : Dk.Ok Z (Lg.wrt Z L us xs).2.1 (Lg.wrt Z L us xs).2.2 := by
  unfold Lg.wrt
  split
  · exact h
  · split
    · exact h
    · exact h.of_len (by simp only [List.length_append]; omega)
theorem Lg.mnd_ok (h : Dk.Ok Z L us) : Dk.Ok Z (Lg.mnd L us).1 (Lg.mnd L us).2 := by
  unfold Lg.mnd
  split
  · exact h.of_len (by have := h.last; simp only [List.length_take]; omega)
  · exact h
theorem Lg.rwr_ok (h : Dk.Ok Z L us) (bs : List (List Int)) : Dk.Ok Z (Lg.rwr Z L us bs).2.1 (Lg.rwr Z L us bs).2.2 := by
  unfold Lg.rwr
  split
  · split
    · exact h
    · exact h.of_len (by simp only; omega)
  · exact h
theorem Lg.wrt_by (h : Lg.By L us) {xs : List Int} (hx : Byt xs) : Lg.By (Lg.wrt Z L us xs).2.1 (Lg.wrt Z L us xs).2.2 := by
  unfold Lg.wrt
  split
  · exact h
  · split
    · exact h
    · exact .new (h.aft.app (F.put_byt hx (by omega)))
theorem Lg.mnd_by (h : Lg.By L us) : Lg.By (Lg.mnd L us).1 (Lg.mnd L us).2 := by
  unfold Lg.mnd
  split
  · exact .new (h.aft.take _)
  · exact h
theorem Lg.fit_all {bs : List (List Int)} : Lg.fit bs = true ↔ ∀ b ∈ bs, b.length ≤ 4096 := by simp [Lg.fit]
theorem Lg.rwr_by (h : Lg.By L us) {bs : List (List Int)} (hx : ∀ b ∈ bs, Byt b) : Lg.By (Lg.rwr Z L us bs).2.1 (Lg.rwr Z L us bs).2.2 := by
  unfold Lg.rwr
  split
  · rename_i hf
    split
    · exact h
    · exact .new (F.cat_byt fun b hb => ⟨Lg.fit_all.1 hf b hb, hx b hb⟩)
  · exact h
theorem Lg.wrt_len (xs : List Int) : (Lg.wrt Z L us xs).2.2.length ≤ us.length := by
  unfold Lg.wrt
  split
  · simp
  · split <;> simp
theorem Lg.mnd_len : (Lg.mnd L us).2.length ≤ us.length := by unfold Lg.mnd; split <;> simp
theorem Lg.rwr_len (bs : List (List Int)) : (Lg.rwr Z L us bs).2.2.length ≤ us.length := by
  unfold Lg.rwr
  split
  · split <;> simp
  · simp
end
end Go.Proofs.Ytfllebfegngdhaa
