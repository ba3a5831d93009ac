/- The document's own Same, Lent, Kept: their contracts. -/
import Derived.Test.YtlckappnpdkihaaVint
import Derived.BigQuiet
namespace Go.Proofs.Ytlckappnpdkihaa
open Go.ChangeShapes Go.WideShapes Go.ChangeAt Go.RowKit

/-- The cells of a lent copy while its spare room is marked. -/
def lentCells (b : List Int) (i : Nat) : Array Value := (u8s (b ++ (List.replicate i 171 ++ List.replicate (4 - i) 0))).toArray
theorem lent_step (b : List Int) (i : Nat) (hi : i < 4) : (lentCells b i).setIfInBounds (b.length + i) (.int .u8 171) = lentCells b (i + 1) := by
  unfold lentCells
  rcases i with _ | _ | _ | _ | i
  · simp [List.replicate]
  · simp [List.replicate]
  · simp [List.replicate]
  · simp [List.replicate]
  · omega
theorem lent_at (b : List Int) (i j : Nat) (hi : i ≤ 4) (hj : j < 4) : ∃ v, (lentCells b i)[b.length + j]? = some v := by
  unfold lentCells
  exact ⟨_, Array.getElem?_eq_getElem (by simp; omega)⟩
theorem lent_end (b : List Int) (j : Nat) (hj : j < 4) : (lentCells b 4)[b.length + j]? = some (.int .u8 171) := by
  unfold lentCells
  rcases j with _ | _ | _ | _ | j
  · simp [List.replicate]
  · simp [List.replicate]
  · simp [List.replicate]
  · simp [List.replicate]
  · omega
theorem lent_rds {w : World} {g : Nat} {b : List Int} {i : Nat} (h : Blo w g 5 (lentCells b i)) : Rds w (· = g) (some ⟨g, 0, none⟩) (u8s b) := by
  intro j u hu
  refine ⟨_, rfl, rfl, ?_⟩
  rw [M.addMk, Nat.zero_add, h.cell]
  unfold lentCells
  have hj : j < b.length := by
    rcases Nat.lt_or_ge j b.length with h1 | h1
    · exact h1
    · rw [List.getElem?_eq_none (by simpa using h1)] at hu; cases hu
  simp only [List.getElem?_toArray, List.map_append]
  rw [List.getElem?_append_left (by simpa using hj)]
  exact hu

/-- What Lent leaves. -/
def LentPost (b : List Int) (w : World) (e : Ending) (w' : World) : Prop :=
  ∃ g, e = .returned (.slice (some ⟨g, 0, none⟩) b.length (b.length + 4)) ∧ w.heap.size ≤ g ∧ Blo w' g 5 (lentCells b 4) ∧ Below w.heap.size w w'

theorem Try.sizeU8 : (Try.prog.info? 5).map (·.size) = some 1 := by kernel_rfl

theorem lent_made (b : List Int) : ((Array.replicate (b.length + 4) (Value.int .u8 0)).toList.take 0 ++ u8s b ++ (Array.replicate (b.length + 4) (Value.int .u8 0)).toList.drop (0 + (u8s b).length)).toArray = lentCells b 0 := by
  unfold lentCells
  simp

set_option maxRecDepth 100000 in
set_option maxHeartbeats 1000000 in
theorem lent_any (S : Nat → Prop) (A : Option Addr) (c : Nat) (b : List Int) (w : World) (hr : Rds w S A (u8s b)) (hl : b.length ≤ 1000000) :
    Calls Try.prog 24 #[.slice A b.length c] w (LentPost b w) := by
  obtain ⟨i0, hi, hz0, hz1, hz2⟩ := info_parts Try.rowU8
  have hmk : ∀ W : World, (Instr.makeSlice 36 (.int .i64 (b.length : Int)) (.int .i64 ((b.length : Int) + 4))).run Try.prog W = .ok (.slice (some ⟨W.heap.size, 0, none⟩) b.length (b.length + 4)) (W.alloc (.cells (Array.replicate (b.length + 4) (.int .u8 0)) 5)) := fun W => by
    have h := run_make (P := Try.prog) W 36 5 i0 (.int .u8 0) Try.underlying36 hi hz0 .i64 .i64 b.length ((b.length : Int) + 4) (by omega) (by omega) (by rw [hz2]; omega) (by omega)
    rw [h, hz1]
    have e1 : ((b.length : Int) + 4).toNat = b.length + 4 := by omega
    have e2 : madeCells (Value.int .u8 0).cells (b.length + 4) = Array.replicate (b.length + 4) (.int .u8 0) := by
      apply Array.toList_inj.1
      have := toList_madeCells_one (.int .u8 0) (b.length + 4)
      simpa [Value.cells] using this
    rw [e1, Nat.mul_one, e2]; simp
  obtain ⟨W2, hcp, hg2, hgb⟩ := run_cpy (P := Try.prog) (w.alloc (.cells (Array.replicate (b.length + 4) (.int .u8 0)) 5)) 36 36 3 5 Try.underlying36 Try.sizeU8 w.heap.size 0 (b.length + 4) A c _ 5 (Blo.made w 5 _) S (u8s b) (hr.alloc _) (by simp) (one_ints _ _)
  rw [lent_made] at hg2
  simp only [List.length_map] at hcp
  have hb2 : Below w.heap.size w W2 := ((Below.refl _ _).alloc (Nat.le_refl _) _).grown hgb (by simp) (by simp)
  clear hgb
  go_enter Try.func24, Try.ntmps24
  go_wp2
  go_loopw [23] (fun iv wr => ∃ i : Nat, iv = .int .i64 i ∧ i ≤ 4 ∧ Blo wr w.heap.size 5 (lentCells b i) ∧ Below w.heap.size w wr) (fun iv _ => 4 - (intOf iv).toNat)
  case atStart => exact ⟨0, rfl, by omega, hg2, hb2⟩
  case round =>
    obtain ⟨i, rfl, hi4, hg, hb⟩ := hrel
    by_cases hlt : i < 4
    · obtain ⟨v, hv⟩ := lent_at b i i hi4 hlt
      have c1 := (hg.cell (b.length + i)).trans hv
      have f1 := hg.frozen (b.length + i)
      have R := hg.put (b.length + i) (.int .u8 171)
      rw [lent_step b i hlt] at R
      have R2 := hb.setCell (p := ⟨w.heap.size, b.length + i, none⟩) (Nat.le_refl _) (.int .u8 171)
      clear hv
      go_wp2
      go_roundw
      case rel => exact ⟨i + 1, by go_num, by omega, R, R2⟩
      case measure => simp [intOf]; omega
    · obtain rfl : i = 4 := by omega
      go_wp2
      go_ret
      exact ⟨_, rfl, Nat.le_refl _, hg, hb⟩

set_option maxHeartbeats 1000000 in
theorem kept_yes (S : Nat → Prop) (A : Option Addr) (c g : Nat) (b : List Int) (w : World) (hg : Blo w g 5 (lentCells b 4)) (hr : Rds w S A (u8s b)) (hl : b.length ≤ 1000000) :
    Calls Try.prog 30 #[.slice (some ⟨g, 0, none⟩) b.length (b.length + 4), .slice A b.length c] w fun e w' => e = .returned (.bool true) ∧ Drew w w' := by
  go_enter Try.func30, Try.ntmps30
  go_wp2_with fail
  refine (same_yes _ _ _ _ _ _ b w (lent_rds hg) hr hl).mono ?_
  rintro e w1 ⟨rfl, hd⟩
  have hg1 := hd.blo hg
  have e0 := lent_end b 0 (by omega)
  have e1 := lent_end b 1 (by omega)
  have e2 := lent_end b 2 (by omega)
  have e3 := lent_end b 3 (by omega)
  have c0 := (hg1.cell (b.length + 0)).trans e0
  have c1 := (hg1.cell (b.length + 1)).trans e1
  have c2 := (hg1.cell (b.length + 2)).trans e2
  have c3 := (hg1.cell (b.length + 3)).trans e3
  clear e0 e1 e2 e3
  go_wp2
  go_loop [19] (fun iv => ∃ i : Nat, iv = .int .i64 i ∧ i ≤ 4) (fun iv => 4 - (intOf iv).toNat)
  case atStart => exact ⟨0, rfl, by omega⟩
  case round =>
    obtain ⟨i, rfl, hi4⟩ := hrel
    by_cases hlt : i < 4
    · have ci := (hg1.cell (b.length + i)).trans (lent_end b i hlt)
      clear c0 c1 c2 c3
      go_wp2
      go_round
      case rel => exact ⟨i + 1, by go_num, by omega⟩
      case measure => simp [intOf]; omega
    · clear c0 c1 c2 c3
      go_wp2
      go_ret
      exact ⟨rfl, hd⟩

end Go.Proofs.Ytlckappnpdkihaa
