/- Contracts of layer 2's reader: pass. -/
import Derived.Test.YtlckappnpdkihaaVint
import Derived.WalkLawsBesides
import Derived.Defers
import Derived.Recover
namespace Go.Proofs.Ytlckappnpdkihaa
open Go.ChangeShapes Go.WideShapes Go.ChangeAt Go.RowKit

/-- The reading parts give up by this. -/
abbrev gave (x : Int) : Ending := .panicked [{ v := .iface 37 (.int .i64 x), recovered := false }]

set_option maxHeartbeats 400000 in
theorem pass_neg (g : Nat) {n : Int} (w : World) (hn : n < 0) :
    Calls Try.prog 82 #[.pointer (some ⟨g, 0, none⟩), .int .i64 n] w fun e w' => e = gave 2 ∧ w = w' := by
  go_enter Try.func82, Try.ntmps82
  go_wp2
  exact ⟨rfl, rfl, rfl⟩

set_option maxHeartbeats 400000 in
theorem pass_short {g h : Nat} {l : List Int} {x n : Int} {w : World} (hr : Rdr w g h l x) (hn : (l.length : Int) < n) :
    Calls Try.prog 82 #[.pointer (some ⟨g, 0, none⟩), .int .i64 n] w fun e w' => e = gave 3 ∧ w = w' := by
  obtain ⟨_, _, _, _, A, c, hb, _, _⟩ := hr
  have c0 := hb.cell 0
  have c1 := hb.cell 1
  simp at c0 c1
  have hn0 : 0 ≤ n := by omega
  go_enter Try.func82, Try.ntmps82
  go_wp2
  exact ⟨rfl, rfl, rfl⟩

/-- What pass leaves where there are enough. -/
def PassPost (g h : Nat) (l : List Int) (x : Int) (n : Nat) (w : World) (e : Ending) (w' : World) : Prop :=
  ∃ A c, e = .returned (.slice A n c) ∧ Rds w' (· = h) A (u8s (l.take n)) ∧ Rdr w' g h (l.drop n) x ∧ w.grownBy w' (some g)

theorem rdr_cut {w : World} {g h : Nat} {l : List Int} {x : Int} {A : Option Addr} {c n : Nat} (hne : l ≠ [] → g ≠ h) (hh : h < w.heap.size) (hB : Byt l) (hl : l.length ≤ 1000000) (hb : Blo w g 107 #[.slice A l.length c, .int .i64 x]) (hc : l.length ≤ c)
    (hr : Rds w (· = h) A (u8s l)) (hn : n ≤ l.length) :
    Rds (w.setCell ⟨g, 0, none⟩ (.slice (if c = n then A else A.map (·.add n)) (l.length - n) (c - n))) (· = h) A (u8s (l.take n)) ∧
    Rdr (w.setCell ⟨g, 0, none⟩ (.slice (if c = n then A else A.map (·.add n)) (l.length - n) (c - n))) g h (l.drop n) x ∧
    w.grownBy (w.setCell ⟨g, 0, none⟩ (.slice (if c = n then A else A.map (·.add n)) (l.length - n) (c - n))) (some g) := by
  have hg : w.grownBy (w.setCell ⟨g, 0, none⟩ (.slice (if c = n then A else A.map (·.add n)) (l.length - n) (c - n))) (some g) := gb_set (World.grownBy.refl w _) (.inl rfl) _
  by_cases hl0 : l = []
  · subst hl0
    refine ⟨by simpa using Rds.nil, ⟨fun h => absurd (by simp) h, by simpa [World.setCell] using hh, hB.drop n, by simp, if c = n then A else A.map (·.add n), c - n, ?_, by simp, by simpa using Rds.nil⟩, hg⟩
    have := hb.put 0 (.slice (if c = n then A else A.map (·.add n)) (([] : List Int).length - n) (c - n))
    simpa using this
  · have hne' : ∀ b, b = h → b < w.heap.size → some b ≠ some g := fun b hb _ e => by subst hb; injection e with e; exact hne hl0 e.symm
    refine ⟨?_, ⟨fun _ => hne hl0, by simpa [World.setCell] using hh, hB.drop n, by simp; omega, if c = n then A else A.map (·.add n), c - n, ?_, by simp; omega, ?_⟩, hg⟩
    · have := (hr.take n).grown hg hne'
      rwa [← List.map_take] at this
    · have := hb.put 0 (.slice (if c = n then A else A.map (·.add n)) (l.length - n) (c - n))
      simpa using this
    · have := (Rds.cut (k := n) (c := c) hr (by simpa using hc)).grown hg hne'
      rwa [← List.map_drop] at this

set_option maxHeartbeats 400000 in
theorem pass_ok {g h : Nat} {l : List Int} {x : Int} {n : Nat} {w : World} (hr : Rdr w g h l x) (hn : n ≤ l.length) :
    Calls Try.prog 82 #[.pointer (some ⟨g, 0, none⟩), .int .i64 n] w (PassPost g h l x n w) := by
  obtain ⟨hne, hh, hB, hl, A, c, hb, hc, hrr⟩ := hr
  have c0 := hb.cell 0
  have c1 := hb.cell 1
  have f0 := hb.frozen 0
  simp at c0 c1
  have R := rdr_cut hne hh hB hl hb hc hrr hn
  go_enter Try.func82, Try.ntmps82
  go_wp2
  all_goals go_ret
  · have hcn : c = n := by assumption
    rw [if_pos hcn, hcn, Nat.sub_self] at R
    exact ⟨A, n, rfl, R⟩
  · have hcn : ¬ c = n := by assumption
    rw [if_neg hcn] at R
    exact ⟨A, c, rfl, R⟩

theorem pass_ok' {g h : Nat} {l : List Int} {x : Int} {n : Nat} {k : Int} {w : World} (hr : Rdr w g h l x) (hn : n ≤ l.length) (hk : k = n) :
    Calls Try.prog 82 #[.pointer (some ⟨g, 0, none⟩), .int .i64 k] w (PassPost g h l x n w) := by
  subst hk
  exact pass_ok hr hn

/-- What number comes to: the number, or giving up. -/
def NumPost (g h : Nat) (l : List Int) (w : World) (e : Ending) (w' : World) : Prop :=
  ((V.int l).2.2 = 0 ∧ e = .returned (.int .i64 (V.int l).1) ∧ Rdr w' g h (l.drop (V.int l).2.1) 0 ∧ w.grownBy w' (some g)) ∨
  ((V.int l).2.2 ≠ 0 ∧ e = gave (V.int l).2.2 ∧ w = w')

set_option maxHeartbeats 1000000 in
theorem number_any {g h : Nat} {l : List Int} {w : World} (hr : Rdr w g h l 0) :
    Calls Try.prog 80 #[.pointer (some ⟨g, 0, none⟩)] w (NumPost g h l w) := by
  have hr0 := hr
  obtain ⟨hne, hh, hB, hl, A, c, hb, hc, hrr⟩ := hr
  have c0 := hb.cell 0
  have c1 := hb.cell 1
  simp at c0 c1
  go_enter Try.func80, Try.ntmps80
  go_wp2
  go_loop [3, 6] (fun nv iv => ∃ (n : Int) (i : Nat), nv = .int .i64 n ∧ iv = .int .i64 i ∧ i ≤ 6 ∧ i ≤ l.length ∧ 0 ≤ n ∧ Hid (n < 128 ^ i) ∧ Hid (V.int l = V.num (6 - i) (l.drop i) i n)) (fun _ iv => 6 - (intOf iv).toNat)
  case atStart => exact ⟨0, 0, rfl, rfl, by omega, by omega, by omega, by show (0 : Int) < _; decide, rfl⟩
  case round =>
    obtain ⟨n, i, rfl, rfl, hi, hil0, hn0, Hn, HV⟩ := hrel
    have hn1 := V.pow_le6 hi Hn.out
    by_cases h6 : i < 6
    · by_cases hil : i < l.length
      · obtain ⟨ad, rfl, _, hce⟩ := hrr.int hil
        have hbt := hB.at hil
        obtain ⟨ch, hch⟩ : ∃ ch, ch = l[i] := ⟨_, rfl⟩
        rw [← hch] at hce hbt
        have q0 : 0 ≤ ch % 128 * 2 ^ (7 * i) := by rw [V.st_pow]; exact V.st_q0
        have q1' := V.st_bound (ch := ch) Hn.out
        have q1 : n + ch % 128 * 2 ^ (7 * i) < 4398046511104 := by rw [V.st_pow]; exact V.pow_le6 (by omega) q1'
        have HQ := Lib.hid q1'
        have HCH := Lib.hid hch
        have hne' : ((i : Int) == (l.length : Int)) = false := by simp; omega
        clear q1' hch
        by_cases h128 : 128 ≤ ch
        · have HM := Lib.hid (V.st_more HV.out h6 hil HCH.out h128)
          go_wp2
          go_round
          case rel => exact ⟨n + ch % 128 * 128 ^ i, i + 1, by rw [V.st_pow], by go_num, by omega, by omega, by rw [← V.st_pow]; omega, HQ, HM⟩
          case measure => simp [intOf]; omega
        · by_cases hbad : 1099511627776 < n + ch % 128 * 2 ^ (7 * i)
          · have HM := Lib.hid (V.st_bad HV.out h6 hil HCH.out (by omega) (.inl (by rw [← V.st_pow]; exact hbad)))
            go_wp2
            exact ⟨rfl, .inr ⟨by rw [HM.out]; decide, by rw [HM.out], rfl⟩⟩
          · by_cases h0 : ch = 0
            · subst h0
              by_cases hi0 : 0 < i
              · have HM := Lib.hid (V.st_bad HV.out h6 hil HCH.out (by omega) (.inr ⟨rfl, hi0⟩))
                go_wp2
                exact ⟨rfl, .inr ⟨by rw [HM.out]; decide, by rw [HM.out], rfl⟩⟩
              · have HM := Lib.hid (V.st_good HV.out h6 hil HCH.out (by omega) (by rw [← V.st_pow]; omega))
                go_wp2_with fail
                refine (pass_ok' hr0 (n := i + 1) (by omega) (by omega)).mono ?_
                rintro e w1 ⟨A1, c1, rfl, _, hr1, hg1⟩
                go_wp2
                go_ret
                exact .inl ⟨by rw [HM.out], ret_int (by rw [HM.out]; simp), by rw [HM.out]; exact hr1, hg1⟩
            · have h0' : (ch == 0) = false := by simpa using h0
              have HM := Lib.hid (V.st_good HV.out h6 hil HCH.out (by omega) (by rw [← V.st_pow]; omega))
              go_wp2_with fail
              refine (pass_ok' hr0 (n := i + 1) (by omega) (by omega)).mono ?_
              rintro e w1 ⟨A1, c1, rfl, _, hr1, hg1⟩
              go_wp2
              go_ret
              exact .inl ⟨by rw [HM.out], ret_int (by rw [HM.out, ← V.st_pow]), by rw [HM.out]; exact hr1, hg1⟩
      · have HM := Lib.hid (V.st_short HV.out h6 (by omega))
        have hne' : ((i : Int) == (l.length : Int)) = true := by simp; omega
        go_wp2
        exact ⟨rfl, .inr ⟨by rw [HM.out]; decide, by rw [HM.out], rfl⟩⟩
    · have HM := Lib.hid (V.st_long HV.out (by omega))
      go_wp2
      exact ⟨rfl, .inr ⟨by rw [HM.out]; decide, by rw [HM.out], rfl⟩⟩

end Go.Proofs.Ytlckappnpdkihaa
