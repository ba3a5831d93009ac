/- Layer 12, the library: the whole sort, SortStableFunc, of few: one block in order, by insertion. -/
import Derived.Test.YtdgmbopdommnhaaRkS2
namespace Go.Proofs.Ytdgmbopdommnhaa.Rk
set_option linter.unusedVariables false
set_option linter.unusedSimpArgs false
open Go.ChangeShapes Go.WideShapes Go.ChangeAt Go.RowKit

set_option maxRecDepth 100000 in
set_option maxHeartbeats 8000000 in
theorem stable_any (g N c : Nat) (p : Cap) (l0 : List (Fin p.n)) (w : World) (hN : l0.length = N) (hs : SRow w g l0) (hp : CmpAt w p) (hpg : p.off g) (hl : N ≤ 19) :
    Calls Try.prog 27 #[.slice (some ⟨g, 0, none⟩) N c, .int .i64 (N : Int), cmpV p] w (RowP g w fun l' => l' = P.isort (ltI p) l0) := by
  have HN := Lib.hid hN
  have HO : Hid (P.One (ltI p) l0 l0 20 N 0) := Lib.hid (P.One.start hN)
  have HC := Lib.hid (insertion_any g N c 0 N p l0 w hN hs hp hpg (by omega) (Nat.le_refl _) (by omega))
  clear hN hs hp
  go_enter Try.func27, Try.ntmps27
  go_wp2_with fail
  go_loopw [7, 8] (fun av bv wr => av = .int .i64 0 ∧ bv = .int .i64 20 ∧ wr = w) (fun av _ _ => 0)
  case atStart => exact ⟨rfl, rfl, rfl⟩
  case round =>
    obtain ⟨rfl, rfl, rfl⟩ := hrel
    have hb' : ¬ ((20 : Nat) : Int) ≤ (N : Int) := by omega
    have hb2 : ¬ (20 : Int) ≤ (N : Int) := by omega
    go_wp2_with fail
    refine HC.out.mono ?_
    rintro e W1 ⟨rfl, l1, hS1, hM1, hg1⟩
    have HA : Hid (P.All (ltI p) l0 l1 20 N) := Lib.hid (HO.out.fin (by omega) hM1)
    clear HC HO hM1 hb' hb2
    go_wp2_with fail
    go_loopw [6] (fun sv wr => sv = .int .i64 20 ∧ wr = W1) (fun sv _ => 0)
    case atStart => exact ⟨rfl, rfl⟩
    case round =>
      obtain ⟨rfl, rfl⟩ := hrel
      have hsn : ¬ 20 < N := by omega
      have hsn' : ¬ (20 : Int) < (N : Int) := by omega
      have HF : Hid (l1 = P.isort (ltI p) l0) := Lib.hid (P.isort_is (ordI p) (HA.out.fin hsn).1 (HA.out.fin hsn).2)
      go_wp2
      first | go_end0 | refine bodyPost_ret (results_none rfl _ _ _) rfl ?_
      exact ⟨rfl, l1, hS1, HF.out, hg1⟩

set_option maxRecDepth 100000 in
set_option maxHeartbeats 4000000 in
theorem sortstable_any (g N c : Nat) (p : Cap) (l0 : List (Fin p.n)) (w : World) (hN : l0.length = N) (hs : SRow w g l0) (hp : CmpAt w p) (hpg : p.off g) (hl : N ≤ 19) :
    Calls Try.prog 20 #[.slice (some ⟨g, 0, none⟩) N c, cmpV p] w (RowP g w fun l' => l' = P.isort (ltI p) l0) := by
  have HC := Lib.hid (stable_any g N c p l0 w hN hs hp hpg hl)
  clear hN hs hp
  go_enter Try.func20, Try.ntmps20
  go_wp2_with fail
  refine HC.out.mono ?_
  rintro e W1 ⟨rfl, l1, hS1, hM1, hg1⟩
  go_wp2
  go_end0
  exact ⟨rfl, l1, hS1, hM1, hg1⟩
/-! Of none -/
set_option maxRecDepth 100000 in
set_option maxHeartbeats 4000000 in
theorem insertion_none (c : Nat) (p : Cap) (A : Option Addr) (w : World) : Calls Try.prog 31 #[.slice A 0 c, .int .i64 0, .int .i64 0, cmpV p] w fun e w' => e = .returned (.tuple #[]) ∧ w' = w := by
  go_enter Try.func31, Try.ntmps31
  go_wp2_with fail
  go_loopw [8] (fun iv wr => iv = .int .i64 1 ∧ wr = w) (fun _ _ => 0)
  case atStart => exact ⟨rfl, rfl⟩
  case round =>
    obtain ⟨rfl, rfl⟩ := hrel
    go_wp2
    go_end0
    exact ⟨rfl, rfl⟩
set_option maxRecDepth 100000 in
set_option maxHeartbeats 4000000 in
theorem stable_none (c : Nat) (p : Cap) (A : Option Addr) (w : World) : Calls Try.prog 27 #[.slice A 0 c, .int .i64 0, cmpV p] w fun e w' => e = .returned (.tuple #[]) ∧ w' = w := by
  go_enter Try.func27, Try.ntmps27
  go_wp2_with fail
  go_loopw [7, 8] (fun av bv wr => av = .int .i64 0 ∧ bv = .int .i64 20 ∧ wr = w) (fun _ _ _ => 0)
  case atStart => exact ⟨rfl, rfl, rfl⟩
  case round =>
    obtain ⟨rfl, rfl, rfl⟩ := hrel
    go_wp2_with fail
    refine (insertion_none c p A _).mono ?_
    rintro e w1 ⟨rfl, rfl⟩
    go_wp2_with fail
    go_loopw [6] (fun sv wr => sv = .int .i64 20 ∧ wr = w1) (fun _ _ => 0)
    case atStart => exact ⟨rfl, rfl⟩
    case round =>
      obtain ⟨rfl, rfl⟩ := hrel
      go_wp2
      go_end0
      exact ⟨rfl, rfl⟩
set_option maxRecDepth 100000 in
set_option maxHeartbeats 4000000 in
theorem sortstable_none (c : Nat) (p : Cap) (A : Option Addr) (w : World) : Calls Try.prog 20 #[.slice A 0 c, cmpV p] w fun e w' => e = .returned (.tuple #[]) ∧ w' = w := by
  go_enter Try.func20, Try.ntmps20
  go_wp2_with fail
  refine (stable_none c p A _).mono ?_
  rintro e w1 ⟨rfl, rfl⟩
  go_wp2
  go_end0
  exact ⟨rfl, rfl⟩
end Go.Proofs.Ytdgmbopdommnhaa.Rk
