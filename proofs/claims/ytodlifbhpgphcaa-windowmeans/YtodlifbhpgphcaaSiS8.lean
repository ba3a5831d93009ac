/- Layer 10, the library: a merge in place of any two rows; the whole sort, SortStableFunc. -/
import Derived.Test.YtodlifbhpgphcaaSiS4
import Derived.Test.YtodlifbhpgphcaaSiS5
import Derived.Test.YtodlifbhpgphcaaSiS6
import Derived.Test.YtodlifbhpgphcaaSiS7
namespace Go.Proofs.Ytodlifbhpgphcaa
set_option linter.unusedVariables false
set_option linter.unusedSimpArgs false
open Go.ChangeShapes Go.WideShapes Go.ChangeAt Go.RowKit

theorem sym_any (g N c : Nat) (p : Cap) (hpg : p.off g) (hl : N ≤ 1000000) : ∀ (K a m b0 : Nat) (l0 : List (Fin p.n)) (w : World), b0 - a < K → l0.length = N → SRow w g l0 → CmpAt w p → a < m → m < b0 → b0 ≤ N → P.SrtAt (ltI p) l0 a m → P.SrtAt (ltI p) l0 m b0 →
    Calls Try.prog 41 #[.slice (some ⟨g, 0, none⟩) N c, .int .i64 (a : Int), .int .i64 (m : Int), .int .i64 (b0 : Int), cmpV p] w (RowP g w fun l' => P.Mg (ltI p) l0 l' a b0)
  | 0, _, _, _, _, _, hK, _, _, _, _, _, _, _, _ => by omega
  | K + 1, a, m, b0, l0, w, hK, hN, hs, hp, h1, h2, h3, hs1, hs2 => by
    by_cases hm1 : m = a + 1
    · exact sym1_any g N c a m b0 p l0 w hN hs hp hpg h1 h2 h3 hl hs1 hs2 hm1
    · by_cases hm2 : b0 = m + 1
      · exact sym2_any g N c a m b0 p l0 w hN hs hp hpg h1 h2 h3 hl hs1 hs2 hm1 hm2
      · have ih := Lib.hid (fun a' m' b' l' w' (hk : b' - a' < b0 - a) h1 h2 h3 h4 h5 h6 h7 h8 => sym_any g N c p hpg hl K a' m' b' l' w' (by omega) h1 h2 h3 h4 h5 h6 h7 h8)
        rcases Nat.lt_or_ge ((a + b0) / 2) m with hw | hw
        · exact sym3a_any g N c a m b0 p l0 w hN hs hp hpg h1 h2 h3 hl hs1 hs2 hm1 hm2 hw ih
        · exact sym3b_any g N c a m b0 p l0 w hN hs hp hpg h1 h2 h3 hl hs1 hs2 hm1 hm2 hw ih

set_option maxRecDepth 100000 in
set_option maxHeartbeats 8000000 in
theorem stable_any (g N c : Nat) (p : Cap) (l0 : List (Fin p.n)) (w : World) (hN : l0.length = N) (hs : SRow w g l0) (hp : CmpAt w p) (hpg : p.off g) (hl : N ≤ 900000) :
    Calls Try.prog 37 #[.slice (some ⟨g, 0, none⟩) N c, .int .i64 (N : Int), cmpV p] w (RowP g w fun l' => l' = P.isort (ltI p) l0) := by
  have HN := Lib.hid hN
  have HO0 : Hid (P.One (ltI p) l0 l0 20 N 0) := Lib.hid (P.One.start hN)
  clear hN
  go_enter Try.func37, Try.ntmps37
  go_wp2_with fail
  go_loopw [7, 8] (fun av bv wr => ∃ (a : Nat) (l : List (Fin p.n)), av = .int .i64 (a : Int) ∧ bv = .int .i64 ((a + 20 : Nat) : Int) ∧ a ≤ N ∧ Hid (P.One (ltI p) l0 l 20 N a) ∧ SRow wr g l ∧ CmpAt wr p ∧ w.grownBy wr (some g)) (fun av _ _ => N - (intOf av).toNat)
  case atStart => exact ⟨0, l0, rfl, rfl, by omega, HO0, hs, hp, World.grownBy.refl _ _⟩
  case round =>
    clear hs HO0 hp
    obtain ⟨a, l, rfl, rfl, haN, HO, hS, hP, hg⟩ := hrel
    by_cases hb : a + 20 ≤ N
    · have hb' : ((a + 20 : Nat) : Int) ≤ (N : Int) := by omega
      have hb2 : (a : Int) + 20 ≤ (N : Int) := by omega
      have HC := Lib.hid (insertion_any g N c a (a + 20) p l wr HO.out.len hS hP hpg (by omega) hb (by omega))
      clear hS
      go_wp2_with fail
      refine HC.out.mono ?_
      rintro e W1 ⟨rfl, l1, hS1, hM1, hg1⟩
      have HO1 : Hid (P.One (ltI p) l0 l1 20 N (a + 20)) := Lib.hid (HO.out.step hb hM1)
      have hP1 := hP.gb hg1 hpg
      have hgg := gb_trans hg hg1
      clear HC HO hM1 hg hg1 hP
      go_wp2
      go_roundw
      case rel => exact ⟨a + 20, l1, by go_num, by go_num, by omega, HO1, hS1, hP1, hgg⟩
      case measure => simp [intOf]; omega
    · have hb' : ¬ ((a + 20 : Nat) : Int) ≤ (N : Int) := by omega
      have hb2 : ¬ (a : Int) + 20 ≤ (N : Int) := by omega
      have HC := Lib.hid (insertion_any g N c a N p l wr HO.out.len hS hP hpg haN (Nat.le_refl _) (by omega))
      clear hS
      go_wp2_with fail
      refine HC.out.mono ?_
      rintro e W1 ⟨rfl, l1, hS1, hM1, hg1⟩
      have HA : Hid (P.All (ltI p) l0 l1 20 N) := Lib.hid (HO.out.fin (by omega) hM1)
      have hP1 := hP.gb hg1 hpg
      have hgg := gb_trans hg hg1
      clear HC HO hM1 hg hg1 hP hb' hb2 hb haN
      go_wp2_with fail
      go_loopw [6] (fun sv wr => ∃ (s : Nat) (l : List (Fin p.n)), sv = .int .i64 (s : Int) ∧ 0 < s ∧ s ≤ 2000000 ∧ Hid (P.All (ltI p) l0 l s N) ∧ SRow wr g l ∧ CmpAt wr p ∧ w.grownBy wr (some g)) (fun sv _ => N - (intOf sv).toNat)
      case atStart => exact ⟨20, l1, rfl, by omega, by omega, HA, hS1, hP1, hgg⟩
      case round =>
        clear HA hS1 hP1 hgg
        obtain ⟨s, l2, rfl, hs0, hs2, HA, hS2, hP2, hg2⟩ := hrel
        by_cases hsn : s < N
        · have hsn' : (s : Int) < (N : Int) := by omega
          have e2 : IntKind.i64.wrap (2 * (s : Int)) = 2 * (s : Int) := IntWalk.i64_in _ (by omega)
          have e3 : IntKind.i64.wrap ((s : Int) * 2) = (s : Int) * 2 := IntWalk.i64_in _ (by omega)
          have HT0 : Hid (P.Two (ltI p) l0 l2 s N 0) := Lib.hid (P.Two.start HA.out)
          clear HA
          go_wp2_with fail
          go_loopw [7, 8] (fun av bv wr => ∃ (a : Nat) (l : List (Fin p.n)), av = .int .i64 (a : Int) ∧ bv = .int .i64 ((a + 2 * s : Nat) : Int) ∧ a ≤ N ∧ Hid (P.Two (ltI p) l0 l s N a) ∧ SRow wr g l ∧ CmpAt wr p ∧ w.grownBy wr (some g)) (fun av _ _ => N - (intOf av).toNat)
          case atStart => exact ⟨0, l2, rfl, by go_num, by omega, HT0, hS2, hP2, hg2⟩
          case round =>
            clear hS2 HT0 hP2 hg2
            obtain ⟨a, l, rfl, rfl, haN, HT, hS, hP, hg⟩ := hrel
            have ea : IntKind.i64.wrap ((a : Int) + (s : Int)) = ((a + s : Nat) : Int) := by rw [IntWalk.i64_in _ (by omega)]; omega
            by_cases hb : a + 2 * s ≤ N
            · have hb' : ((a + 2 * s : Nat) : Int) ≤ (N : Int) := by omega
              have hb2 : (a : Int) + 2 * (s : Int) ≤ (N : Int) := by omega
              have hnx := HT.out.next (by omega) hs0
              rw [Nat.min_eq_left hb] at hnx
              have HC := Lib.hid (sym_any g N c p hpg (by omega) (a + 2 * s - a + 1) a (a + s) (a + 2 * s) l wr (by omega) HT.out.len hS hP (by omega) (by omega) hb hnx.1 hnx.2)
              clear hS hnx
              go_wp2_with fail
              refine HC.out.mono ?_
              rintro e W1 ⟨rfl, l3, hS1, hM1, hg1⟩
              have HT1 : Hid (P.Two (ltI p) l0 l3 s N (a + 2 * s)) := Lib.hid (HT.out.step hb hM1)
              have hP1 := hP.gb hg1 hpg
              have hgg := gb_trans hg hg1
              clear HC HT hM1 hg hg1 hP
              go_wp2
              go_roundw
              case rel => exact ⟨a + 2 * s, l3, by go_num, by go_num, hb, HT1, hS1, hP1, hgg⟩
              case measure => simp [intOf]; omega
            · have hb' : ¬ ((a + 2 * s : Nat) : Int) ≤ (N : Int) := by omega
              have hb2 : ¬ (a : Int) + 2 * (s : Int) ≤ (N : Int) := by omega
              by_cases hm : a + s < N
              · have hm' : ((a + s : Nat) : Int) < (N : Int) := by omega
                have hm2 : (a : Int) + (s : Int) < (N : Int) := by omega
                have hnx := HT.out.next hm hs0
                rw [Nat.min_eq_right (by omega)] at hnx
                have HC := Lib.hid (sym_any g N c p hpg (by omega) (N - a + 1) a (a + s) N l wr (by omega) HT.out.len hS hP (by omega) hm (Nat.le_refl _) hnx.1 hnx.2)
                clear hS hnx
                go_wp2_with fail
                refine HC.out.mono ?_
                rintro e W1 ⟨rfl, l3, hS1, hM1, hg1⟩
                have HA1 : Hid (P.All (ltI p) l0 l3 (2 * s) N) := Lib.hid (HT.out.fin (by omega) hM1)
                have hP1 := hP.gb hg1 hpg
                have hgg := gb_trans hg hg1
                clear HC HT hM1 hg hg1 hP
                go_wp2
                go_roundw
                case rel => exact ⟨2 * s, l3, by go_num, by omega, by omega, HA1, hS1, hP1, hgg⟩
                case measure => simp [intOf]; omega
              · have hm' : ¬ ((a + s : Nat) : Int) < (N : Int) := by omega
                have hm2 : ¬ (a : Int) + (s : Int) < (N : Int) := by omega
                have HA1 : Hid (P.All (ltI p) l0 l (2 * s) N) := Lib.hid (HT.out.done (by omega) hm)
                clear HT
                go_wp2
                go_roundw
                case rel => exact ⟨2 * s, l, by go_num, by omega, by omega, HA1, hS, hP, hg⟩
                case measure => simp [intOf]; omega
        · have hsn' : ¬ (s : Int) < (N : Int) := by omega
          have HF : Hid (l2 = P.isort (ltI p) l0) := Lib.hid (P.isort_is (ordI p) (HA.out.fin hsn).1 (HA.out.fin hsn).2)
          go_wp2
          first | go_end0 | refine bodyPost_ret (results_none rfl _ _ _) rfl ?_
          exact ⟨rfl, l2, hS2, HF.out, hg2⟩

set_option maxRecDepth 100000 in
set_option maxHeartbeats 4000000 in
theorem sortstable_any (g N c : Nat) (p : Cap) (l0 : List (Fin p.n)) (w : World) (hN : l0.length = N) (hs : SRow w g l0) (hp : CmpAt w p) (hpg : p.off g) (hl : N ≤ 900000) :
    Calls Try.prog 29 #[.slice (some ⟨g, 0, none⟩) N c, cmpV p] w (RowP g w fun l' => l' = P.isort (ltI p) l0) := by
  have HC := Lib.hid (stable_any g N c p l0 w hN hs hp hpg hl)
  clear hN hs hp
  go_enter Try.func29, Try.ntmps29
  go_wp2_with fail
  refine HC.out.mono ?_
  rintro e W1 ⟨rfl, l1, hS1, hM1, hg1⟩
  go_wp2
  go_end0
  exact ⟨rfl, l1, hS1, hM1, hg1⟩
/-! Of none -/
set_option maxRecDepth 100000 in
set_option maxHeartbeats 4000000 in
theorem insertion_none (c : Nat) (p : Cap) (A : Option Addr) (w : World) : Calls Try.prog 40 #[.slice A 0 c, .int .i64 0, .int .i64 0, cmpV p] w fun e w' => e = .returned (.tuple #[]) ∧ w' = w := by
  go_enter Try.func40, Try.ntmps40
  go_wp2_with fail
  go_loopw [8] (fun iv wr => iv = .int .i64 1 ∧ wr = w) (fun _ _ => 0)
  case atStart => exact ⟨rfl, rfl⟩
  case round =>
    obtain ⟨rfl, rfl⟩ := hrel
    go_wp2
    go_end0
    exact ⟨rfl, rfl⟩
set_option maxRecDepth 100000 in
set_option maxHeartbeats 4000000 in
theorem stable_none (c : Nat) (p : Cap) (A : Option Addr) (w : World) : Calls Try.prog 37 #[.slice A 0 c, .int .i64 0, cmpV p] w fun e w' => e = .returned (.tuple #[]) ∧ w' = w := by
  go_enter Try.func37, Try.ntmps37
  go_wp2_with fail
  go_loopw [7, 8] (fun av bv wr => av = .int .i64 0 ∧ bv = .int .i64 20 ∧ wr = w) (fun _ _ _ => 0)
  case atStart => exact ⟨rfl, rfl, rfl⟩
  case round =>
    obtain ⟨rfl, rfl, rfl⟩ := hrel
    go_wp2_with fail
    refine (insertion_none c p A _).mono ?_
    rintro e w1 ⟨rfl, rfl⟩
    go_wp2_with fail
    go_loopw [6] (fun sv wr => sv = .int .i64 20 ∧ wr = w1) (fun _ _ => 0)
    case atStart => exact ⟨rfl, rfl⟩
    case round =>
      obtain ⟨rfl, rfl⟩ := hrel
      go_wp2
      go_end0
      exact ⟨rfl, rfl⟩
set_option maxRecDepth 100000 in
set_option maxHeartbeats 4000000 in
theorem sortstable_none (c : Nat) (p : Cap) (A : Option Addr) (w : World) : Calls Try.prog 29 #[.slice A 0 c, cmpV p] w fun e w' => e = .returned (.tuple #[]) ∧ w' = w := by
  go_enter Try.func29, Try.ntmps29
  go_wp2_with fail
  refine (stable_none c p A _).mono ?_
  rintro e w1 ⟨rfl, rfl⟩
  go_wp2
  go_end0
  exact ⟨rfl, rfl⟩
end Go.Proofs.Ytodlifbhpgphcaa
