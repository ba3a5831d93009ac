/- Layer 9: how many replicas a load asks for, the program's answer and the document's own. -/
import Derived.Test.YtdppabnhflaoeaaSatDocW
import Derived.Test.YtdppabnhflaoeaaEvRp
import Derived.Test.YtdppabnhflaoeaaSatDiv
import Derived.Test.YtdppabnhflaoeaaEvRef1
namespace Go.Proofs.Ytdppabnhflaoeaa
set_option linter.unusedVariables false
set_option linter.unusedSimpArgs false
open Go.ChangeShapes Go.WideShapes Go.ChangeAt Go.RowKit

/-- How many. -/
def askN (F : Nat → Int) (x : Int) : Int := if E.rp F = true then S.within (S.cdiv (if x < 0 then 0 else x) (F 8)) (F 6) (F 7) else 0
def askE (F : Nat → Int) : Int := if E.rp F = true then 0 else 2
theorem rp_goal {F : Nat → Int} (h : E.rp F = true) : 0 < F 8 := by simp [E.rp] at h; omega

set_option maxRecDepth 100000 in
set_option maxHeartbeats 4000000 in
theorem asked_any (F : Nat → Int) (x : Int) (w : World) : Calls Try.prog 16 #[pv F, .int .i64 x] w fun e w' => e = .returned (.tuple #[.int .i64 (askN F x), .int .i64 (askE F)]) ∧ Below w.heap.size w w' := by
  have hrp := fun W => rightpol_any F W
  cases hr : E.rp F with
  | false =>
    have HA : Hid (askN F x = 0 ∧ askE F = 2) := Lib.hid (by unfold askN askE; rw [hr]; simp)
    rw [hr] at hrp
    go_enter Try.func16, Try.ntmps16
    go_wp2_with fail
    refine (hrp _).mono ?_
    rintro e w1 ⟨rfl, hb⟩
    go_wp2
    go_ret2
    rw [HA.out.1, HA.out.2]
    exact ⟨rfl, below_new (b_alloc _ _) hb⟩
  | true =>
    have hg := rp_goal hr
    have HA : Hid (askN F x = S.within (S.cdiv (if x < 0 then 0 else x) (F 8)) (F 6) (F 7) ∧ askE F = 0) := Lib.hid (by unfold askN askE; rw [hr]; simp)
    rw [hr] at hrp
    clear hr
    obtain ⟨y, hy⟩ : ∃ y, y = if x < 0 then 0 else x := ⟨_, rfl⟩
    rw [← hy] at HA
    have hcd := fun W => cdiv_yes y (F 8) W hg
    obtain ⟨w1, hw1⟩ : ∃ W, w.alloc (.cells #[.int .i64 (F 6), .int .i64 (F 7), .int .i64 (F 8), .int .i64 (F 9), .int .i64 (F 10), .int .i64 (F 11), .int .i64 (F 12)] 23) = W := ⟨_, rfl⟩
    have hb1 : Below w.heap.size w w1 := by rw [← hw1]; exact b_alloc _ _
    have hX : Blo w1 w.heap.size 23 #[.int .i64 (F 6), .int .i64 (F 7), .int .i64 (F 8), .int .i64 (F 9), .int .i64 (F 10), .int .i64 (F 11), .int .i64 (F 12)] := by rw [← hw1]; exact Blo.made _ _ _
    have HW := Lib.hid hw1
    clear hw1
    go_enter Try.func16, Try.ntmps16
    go_wp2_with fail
    refine (hrp _).mono ?_
    rintro e w2 ⟨rfl, hb2⟩
    rw [HW.out] at hb2
    have hX2 := hX.new hb2
    have k0 : w2.cell? ⟨w.heap.size, 0, none⟩ = some (.int .i64 (F 6)) := by simpa using hX2.cell 0
    have k1 : w2.cell? ⟨w.heap.size, 1, none⟩ = some (.int .i64 (F 7)) := by simpa using hX2.cell 1
    have k2 : w2.cell? ⟨w.heap.size, 2, none⟩ = some (.int .i64 (F 8)) := by simpa using hX2.cell 2
    have hb02 := below_new hb1 hb2
    clear hb2 hX hb1 HW
    by_cases hx : x < 0
    · have e : y = 0 := by rw [hy, if_pos hx]
      subst e
      clear hy
      go_wp2_with fail
      refine (hcd _).mono ?_
      rintro e w3 ⟨rfl, hb3⟩
      have hX3 := hX2.new hb3
      have k0' : w3.cell? ⟨w.heap.size, 0, none⟩ = some (.int .i64 (F 6)) := by simpa using hX3.cell 0
      have k1' : w3.cell? ⟨w.heap.size, 1, none⟩ = some (.int .i64 (F 7)) := by simpa using hX3.cell 1
      have hb03 := below_new hb02 hb3
      clear hX2 hX3 k0 k1 k2 hb3 hb02
      go_wp2_with fail
      refine (within_any _ _ _ _).mono ?_
      rintro e w4 ⟨rfl, rfl⟩
      go_wp2
      go_ret2
      rw [HA.out.1, HA.out.2]
      exact ⟨rfl, hb03⟩
    · have e : y = x := by rw [hy, if_neg hx]
      subst e
      clear hy
      go_wp2_with fail
      refine (hcd _).mono ?_
      rintro e w3 ⟨rfl, hb3⟩
      have hX3 := hX2.new hb3
      have k0' : w3.cell? ⟨w.heap.size, 0, none⟩ = some (.int .i64 (F 6)) := by simpa using hX3.cell 0
      have k1' : w3.cell? ⟨w.heap.size, 1, none⟩ = some (.int .i64 (F 7)) := by simpa using hX3.cell 1
      have hb03 := below_new hb02 hb3
      clear hX2 hX3 k0 k1 k2 hb3 hb02
      go_wp2_with fail
      refine (within_any _ _ _ _).mono ?_
      rintro e w4 ⟨rfl, rfl⟩
      go_wp2
      go_ret2
      rw [HA.out.1, HA.out.2]
      exact ⟨rfl, hb03⟩
set_option maxRecDepth 100000 in
set_option maxHeartbeats 4000000 in
theorem rasked_any (F : Nat → Int) (x : Int) (w : World) : Calls Try.prog 23 #[pv F, .int .i64 x] w fun e w' => e = .returned (.tuple #[.int .i64 (askN F x), .int .i64 (askE F)]) ∧ Below w.heap.size w w' := by
  have hrp := fun W => rpol_any F W
  cases hr : E.rp F with
  | false =>
    have HA : Hid (askN F x = 0 ∧ askE F = 2) := Lib.hid (by unfold askN askE; rw [hr]; simp)
    rw [hr] at hrp
    go_enter Try.func23, Try.ntmps23
    go_wp2_with fail
    refine (hrp _).mono ?_
    rintro e w1 ⟨rfl, hb⟩
    go_wp2
    go_ret2
    rw [HA.out.1, HA.out.2]
    exact ⟨rfl, below_new (b_alloc _ _) hb⟩
  | true =>
    have hg := rp_goal hr
    have HA : Hid (askN F x = S.within (S.cdiv (if x < 0 then 0 else x) (F 8)) (F 6) (F 7) ∧ askE F = 0) := Lib.hid (by unfold askN askE; rw [hr]; simp)
    rw [hr] at hrp
    clear hr
    obtain ⟨y, hy⟩ : ∃ y, y = if x < 0 then 0 else x := ⟨_, rfl⟩
    rw [← hy] at HA
    have hcd := fun W => (rcdiv_yes y (F 8) W hg).mono (fun e w' h => (⟨h.1, by rw [← h.2]; exact Below.refl _ _⟩ : e = .returned (.tuple #[.int .i64 (S.cdiv y (F 8)), .int .i64 0]) ∧ Below W.heap.size W w'))
    obtain ⟨w1, hw1⟩ : ∃ W, w.alloc (.cells #[.int .i64 (F 6), .int .i64 (F 7), .int .i64 (F 8), .int .i64 (F 9), .int .i64 (F 10), .int .i64 (F 11), .int .i64 (F 12)] 23) = W := ⟨_, rfl⟩
    have hb1 : Below w.heap.size w w1 := by rw [← hw1]; exact b_alloc _ _
    have hX : Blo w1 w.heap.size 23 #[.int .i64 (F 6), .int .i64 (F 7), .int .i64 (F 8), .int .i64 (F 9), .int .i64 (F 10), .int .i64 (F 11), .int .i64 (F 12)] := by rw [← hw1]; exact Blo.made _ _ _
    have HW := Lib.hid hw1
    clear hw1
    go_enter Try.func23, Try.ntmps23
    go_wp2_with fail
    refine (hrp _).mono ?_
    rintro e w2 ⟨rfl, hb2⟩
    rw [HW.out] at hb2
    have hX2 := hX.new hb2
    have k0 : w2.cell? ⟨w.heap.size, 0, none⟩ = some (.int .i64 (F 6)) := by simpa using hX2.cell 0
    have k1 : w2.cell? ⟨w.heap.size, 1, none⟩ = some (.int .i64 (F 7)) := by simpa using hX2.cell 1
    have k2 : w2.cell? ⟨w.heap.size, 2, none⟩ = some (.int .i64 (F 8)) := by simpa using hX2.cell 2
    have hb02 := below_new hb1 hb2
    clear hb2 hX hb1 HW
    by_cases hx : x < 0
    · have e : y = 0 := by rw [hy, if_pos hx]
      subst e
      clear hy
      go_wp2_with fail
      refine (hcd _).mono ?_
      rintro e w3 ⟨rfl, hb3⟩
      have hX3 := hX2.new hb3
      have k0' : w3.cell? ⟨w.heap.size, 0, none⟩ = some (.int .i64 (F 6)) := by simpa using hX3.cell 0
      have k1' : w3.cell? ⟨w.heap.size, 1, none⟩ = some (.int .i64 (F 7)) := by simpa using hX3.cell 1
      have hb03 := below_new hb02 hb3
      clear hX2 hX3 k0 k1 k2 hb3 hb02
      go_wp2_with fail
      refine (rwithin_any _ _ _ _).mono ?_
      rintro e w4 ⟨rfl, rfl⟩
      go_wp2
      go_ret2
      rw [HA.out.1, HA.out.2]
      exact ⟨rfl, hb03⟩
    · have e : y = x := by rw [hy, if_neg hx]
      subst e
      clear hy
      rcases (show 0 < y ∨ y = 0 by omega) with h0 | rfl
      · skip
        go_wp2_with fail
        refine (hcd _).mono ?_
        rintro e w3 ⟨rfl, hb3⟩
        have hX3 := hX2.new hb3
        have k0' : w3.cell? ⟨w.heap.size, 0, none⟩ = some (.int .i64 (F 6)) := by simpa using hX3.cell 0
        have k1' : w3.cell? ⟨w.heap.size, 1, none⟩ = some (.int .i64 (F 7)) := by simpa using hX3.cell 1
        have hb03 := below_new hb02 hb3
        clear hX2 hX3 k0 k1 k2 hb3 hb02
        go_wp2_with fail
        refine (rwithin_any _ _ _ _).mono ?_
        rintro e w4 ⟨rfl, rfl⟩
        go_wp2
        go_ret2
        rw [HA.out.1, HA.out.2]
        exact ⟨rfl, hb03⟩
      · skip
        go_wp2_with fail
        refine (hcd _).mono ?_
        rintro e w3 ⟨rfl, hb3⟩
        have hX3 := hX2.new hb3
        have k0' : w3.cell? ⟨w.heap.size, 0, none⟩ = some (.int .i64 (F 6)) := by simpa using hX3.cell 0
        have k1' : w3.cell? ⟨w.heap.size, 1, none⟩ = some (.int .i64 (F 7)) := by simpa using hX3.cell 1
        have hb03 := below_new hb02 hb3
        clear hX2 hX3 k0 k1 k2 hb3 hb02
        go_wp2_with fail
        refine (rwithin_any _ _ _ _).mono ?_
        rintro e w4 ⟨rfl, rfl⟩
        go_wp2
        go_ret2
        rw [HA.out.1, HA.out.2]
        exact ⟨rfl, hb03⟩
end Go.Proofs.Ytdppabnhflaoeaa
