/- Layer 10, the library: rotations of places. -/
import Derived.Test.YtodlifbhpgphcaaSiS1
namespace Go.Proofs.Ytodlifbhpgphcaa
set_option linter.unusedVariables false
set_option linter.unusedSimpArgs false
open Go.ChangeShapes Go.WideShapes Go.ChangeAt Go.RowKit

set_option maxRecDepth 100000 in
set_option maxHeartbeats 8000000 in
theorem rotate_any {q : Nat} (g N c a m b0 : Nat) (cv : Value) (l0 : List (Fin q)) (w : World) (hN : l0.length = N) (hs : SRow w g l0) (h1 : a < m) (h2 : m < b0) (h3 : b0 ≤ N) (hl : N ≤ 1000000) :
    Calls Try.prog 42 #[.slice (some ⟨g, 0, none⟩) N c, .int .i64 (a : Int), .int .i64 (m : Int), .int .i64 (b0 : Int), cv] w (RowP g w fun l' => P.Rot l0 l' a m b0) := by
  have HN := Lib.hid hN
  have HR0 : Hid (P.Rtt l0 l0 a m b0 (m - a) (b0 - m)) := Lib.hid (P.Rtt.start (by omega) (by omega) (by omega))
  clear hN
  go_enter Try.func42, Try.ntmps42
  go_wp2_with fail
  go_loopw [10, 11] (fun iv jv wr => ∃ (i j : Nat) (l : List (Fin q)), iv = .int .i64 i ∧ jv = .int .i64 j ∧ 0 < i ∧ 0 < j ∧ Hid (P.Rtt l0 l a m b0 i j) ∧ SRow wr g l ∧ w.grownBy wr (some g)) (fun iv jv _ => (intOf iv).toNat + (intOf jv).toNat)
  case atStart => exact ⟨m - a, b0 - m, l0, by go_num, by go_num, by omega, by omega, HR0, hs, World.grownBy.refl _ _⟩
  case round =>
    clear hs HR0
    obtain ⟨i, j, l, rfl, rfl, hi0, hj0, HR, hS, hg⟩ := hrel
    have HBd := Lib.hid HR.out.bd
    have hbd : i ≤ m ∧ m + j ≤ N := by have := HBd.out; omega
    have hlen : l.length = N := by have := HBd.out; rw [this.2.2.2, HN.out]
    by_cases hij : i = j
    · subst hij
      have hc := swaprange_any g N c (m - i) m i cv l wr hlen hS (by omega) (by omega) hl
      have e1 : ((m - i : Nat) : Int) = (m : Int) - (i : Int) := by omega
      rw [e1] at hc
      have e2 : IntKind.i64.wrap ((m : Int) - (i : Int)) = (m : Int) - (i : Int) := IntWalk.i64_in _ (by omega)
      have HC := Lib.hid hc
      clear hc e1 hS hlen
      go_wp2_with fail
      refine HC.out.mono ?_
      rintro e W ⟨rfl, l', hS', hR', hg'⟩
      have HF : Hid (P.Rot l0 l' a m b0) := Lib.hid (HR.out.fin hR')
      have hgg := gb_trans hg hg'
      clear hR' hg hg' HC
      go_wp2
      go_end0
      exact ⟨rfl, l', hS', HF.out, hgg⟩
    · have hij' : ¬ (i : Int) = (j : Int) := by omega
      have hne : ((i : Int) == (j : Int)) = false := by simpa using hij'
      by_cases hlt : j < i
      · have hc := swaprange_any g N c (m - i) m j cv l wr hlen hS (by omega) (by omega) hl
        have e1 : ((m - i : Nat) : Int) = (m : Int) - (i : Int) := by omega
        rw [e1] at hc
        have e2 : IntKind.i64.wrap ((m : Int) - (i : Int)) = (m : Int) - (i : Int) := IntWalk.i64_in _ (by omega)
        have hlt' : (j : Int) < (i : Int) := by omega
        have HC := Lib.hid hc
        clear hc e1 hS hlen hij
        go_wp2_with fail
        refine HC.out.mono ?_
        rintro e W ⟨rfl, l', hS', hR', hg'⟩
        have HF : Hid (P.Rtt l0 l' a m b0 (i - j) j) := Lib.hid (HR.out.left hlt hR')
        have hgg := gb_trans hg hg'
        clear hR' hg hg' HC
        go_wp2
        go_roundw
        case rel => exact ⟨i - j, j, l', by go_num, rfl, by omega, by omega, HF, hS', hgg⟩
        case measure => simp [intOf]; omega
      · have hlt1 : i < j := by omega
        have hc := swaprange_any g N c (m - i) (m + j - i) i cv l wr hlen hS (by omega) (by omega) hl
        have e1 : ((m - i : Nat) : Int) = (m : Int) - (i : Int) := by omega
        have e3 : ((m + j - i : Nat) : Int) = (m : Int) + (j : Int) - (i : Int) := by omega
        rw [e1, e3] at hc
        have e2 : IntKind.i64.wrap ((m : Int) - (i : Int)) = (m : Int) - (i : Int) := IntWalk.i64_in _ (by omega)
        have hlt' : ¬ (j : Int) < (i : Int) := by omega
        have HC := Lib.hid hc
        clear hc e1 e3 hS hlen hij
        go_wp2_with fail
        refine HC.out.mono ?_
        rintro e W ⟨rfl, l', hS', hR', hg'⟩
        have HF : Hid (P.Rtt l0 l' a m b0 i (j - i)) := Lib.hid (HR.out.right hlt1 hR')
        have hgg := gb_trans hg hg'
        clear hR' hg hg' HC
        go_wp2
        go_roundw
        case rel => exact ⟨i, j - i, l', rfl, by go_num, by omega, by omega, HF, hS', hgg⟩
        case measure => simp [intOf]; omega
end Go.Proofs.Ytodlifbhpgphcaa
