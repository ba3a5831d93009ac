/- Layer 6: each, closed, list, lay. -/
import Derived.Test.YtedcgfcmhaeldaaDotOver
import Derived.Test.YtedcgfcmhaeldaaDotTake
import Derived.Test.YtedcgfcmhaeldaaDotMath2
namespace Go.Proofs.Ytedcgfcmhaeldaa
set_option linter.unusedVariables false
set_option linter.unusedSimpArgs false
open Go.ChangeShapes Go.WideShapes Go.ChangeAt Go.RowKit

/-- What each does with a method value: J k says how things stand when k dots have been looked at. -/
structure Doing (K B p : Nat) (S : D.Dot → Bool) (J : Nat → World → Prop) : Prop where
  new : ∀ k W W', J k W → Below W.heap.size W W' → J k W'
  skip : ∀ n i : Nat, n < 8 → i < 96 → S ((n : Int), (i : Int) + 1) = false → ∀ W, J (n * 96 + i) W → J (n * 96 + i + 1) W
  call : ∀ n i : Nat, n < 8 → i < 96 → S ((n : Int), (i : Int) + 1) = true → ∀ W, J (n * 96 + i) W → Calls Try.prog K #[.pointer (some ⟨p, 0, none⟩), .agg #[.int .i64 n, .int .i64 ((i : Int) + 1)]] W fun e W' => e = .returned (.tuple #[]) ∧ J (n * 96 + i + 1) W' ∧ Below B W W'

set_option maxHeartbeats 2000000 in
theorem each_any {K B p g : Nat} {S : D.Dot → Bool} {J : Nat → World → Prop} (hK : K = 78 ∨ K = 75) (hd : Doing K B p S J) (w : World) (ho : Opn w g S) (hB : g < B) (hBw : B ≤ w.heap.size) (hJ : J 0 w) :
    Calls Try.prog 74 #[.pointer (some ⟨g, 0, none⟩), .func (.func K) #[.pointer (some ⟨p, 0, none⟩)] #[]] w fun e w' => e = .returned (.tuple #[]) ∧ J 768 w' ∧ Below B w w' := by
  have HD := Lib.hid hd
  clear hd
  rcases hK with rfl | rfl
  all_goals
    go_enter Try.func74, Try.ntmps74
    go_wp2
    go_loopw [7] (fun iv wr => ∃ n : Nat, iv = .int .i64 n ∧ n ≤ 8 ∧ J (n * 96) wr ∧ Below B w wr) (fun iv _ => 8 - (intOf iv).toNat)
    case atStart => exact ⟨0, rfl, by omega, hJ, Below.refl _ _⟩
    case round =>
      obtain ⟨n, rfl, hn, hJn, hb⟩ := hrel
      by_cases hlt : n < 8
      · have hnd : decide ((n : Int) < 8) = true := by simp; omega
        go_wp2
        go_loopw [10] (fun iv wr => ∃ i : Nat, iv = .int .i64 i ∧ i ≤ 96 ∧ J (n * 96 + i) wr ∧ Below B w wr) (fun iv _ => 96 - (intOf iv).toNat)
        case atStart => exact ⟨0, rfl, by omega, hJn, hb⟩
        case round =>
          obtain ⟨i, rfl, hi, hJi, hb⟩ := hrel
          have hsz := hb.size
          by_cases hlt2 : i < 96
          · obtain ⟨w1, hw1⟩ : ∃ W, wr.alloc (.cells #[.int .i64 n, .int .i64 ((i : Int) + 1)] 39) = W := ⟨_, rfl⟩
            have hb1 : Below wr.heap.size wr w1 := by rw [← hw1]; exact b_alloc _ _
            have hD1 : Blo w1 wr.heap.size 39 #[.int .i64 n, .int .i64 ((i : Int) + 1)] := by rw [← hw1]; exact Blo.made _ _ _
            have ho1 : Opn w1 g S := (ho.keep (hb.block g hB)).new hb1
            have e1 : ((i + 1 : Nat) : Int) = (i : Int) + 1 := by omega
            have hc := ohas_any n (i + 1) w1 ho1 hlt (by omega) (by omega)
            rw [e1] at hc
            have HW := Lib.hid hw1
            have k0 : w1.cell? ⟨wr.heap.size, 0, none⟩ = some (.int .i64 n) := by simpa using hD1.cell 0
            have k1 : w1.cell? ⟨wr.heap.size, 1, none⟩ = some (.int .i64 ((i : Int) + 1)) := by simpa using hD1.cell 1
            have hJ1 := HD.out.new _ _ _ hJi hb1
            have hb01 : Below B w w1 := hb.trans (hb1.mono (by omega))
            have hi97 : (i : Int) + 1 < 97 := by omega
            clear hw1 e1 hJi
            cases hS : S ((n : Int), (i : Int) + 1) with
            | false =>
              rw [hS] at hc
              have HSk := Lib.hid hS
              clear hS
              go_wp2_with fail
              rw [HW.out]
              go_wp2_with fail
              refine hc.mono ?_
              rintro e w2 ⟨rfl, hb2⟩
              have hJ2 := HD.out.skip n i hlt hlt2 HSk.out _ (HD.out.new _ _ _ hJ1 hb2)
              clear hc
              go_wp2
              go_roundw
              case rel => exact ⟨i + 1, by go_num, by omega, hJ2, hb01.trans (hb2.mono (by have := hb01.size; omega))⟩
              case measure => simp [intOf]; omega
            | true =>
              rw [hS] at hc
              have HSk := Lib.hid hS
              clear hS
              go_wp2_with fail
              rw [HW.out]
              go_wp2_with fail
              refine hc.mono ?_
              rintro e w2 ⟨rfl, hb2⟩
              have hJ2 := HD.out.new _ _ _ hJ1 hb2
              have hD2 := hD1.new hb2
              have z0 : w2.cell? ⟨wr.heap.size, 0, none⟩ = some (.int .i64 n) := by simpa using hD2.cell 0
              have z1 : w2.cell? ⟨wr.heap.size, 1, none⟩ = some (.int .i64 ((i : Int) + 1)) := by simpa using hD2.cell 1
              have hc2 := HD.out.call n i hlt hlt2 HSk.out w2 hJ2
              clear hc k0 k1
              go_wp2_with fail
              refine hc2.mono ?_
              rintro e w3 ⟨rfl, hJ3, hb3⟩
              clear hc2 z0 z1
              go_wp2
              go_roundw
              case rel => exact ⟨i + 1, by go_num, by omega, hJ3, (hb01.trans (hb2.mono (by have := hb01.size; omega))).trans hb3⟩
              case measure => simp [intOf]; omega
          · have e2 : n * 96 + i = (n + 1) * 96 := by omega
            rw [e2] at hJi
            clear e2
            go_wp2
            go_roundw
            case rel => exact ⟨n + 1, by go_num, by omega, hJi, hb⟩
            case measure => simp [intOf]; omega
      · have e2 : n * 96 = 768 := by omega
        rw [e2] at hJn
        clear e2
        go_wp2
        go_end0
        exact ⟨rfl, hJn, hb⟩
end Go.Proofs.Ytedcgfcmhaeldaa
