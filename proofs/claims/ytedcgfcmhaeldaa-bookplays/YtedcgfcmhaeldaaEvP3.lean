/- Layer 7, the program's: mayBe. -/
import Derived.Test.YtedcgfcmhaeldaaEvP2
import Derived.Test.YtedcgfcmhaeldaaDotHas
namespace Go.Proofs.Ytedcgfcmhaeldaa
set_option linter.unusedVariables false
set_option linter.unusedSimpArgs false
open Go.ChangeShapes Go.WideShapes Go.ChangeAt Go.RowKit

/-- The first k are 96. -/
def up96 (k : Nat) : Nat → Int := fun j => if j < k then 96 else 0
theorem up96_set {k : Nat} (hk : k < 8) (A : Option Addr) (n c : Nat) : (scs (up96 k) A n c).setIfInBounds k (.int .i64 96) = scs (up96 (k + 1)) A n c := by
  rw [scs_set _ _ _ _ hk]
  have e : upd (up96 k) k 96 = up96 (k + 1) := by
    funext j
    unfold upd up96
    by_cases h : j = k
    · rw [if_pos h, if_pos (by omega)]
    · rw [if_neg h]
      by_cases h1 : j < k
      · rw [if_pos h1, if_pos (by omega)]
      · rw [if_neg h1, if_neg (by omega)]
  rw [e]
theorem has_all (d : D.Dot) : D.has (up96 8) [] d = D.may d := by
  have hr : D.rt (up96 8) [] = true := by decide
  cases hm : D.may d with
  | false => exact D.has_no (.inl hm)
  | true =>
    rw [D.has_yes hm hr]
    have := D.may_iff.1 hm
    have e : up96 8 d.1.toNat = 96 := by unfold up96; rw [if_pos (by omega)]
    rw [e]
    simp; omega

set_option maxHeartbeats 2000000 in
theorem evmay_any (a b : Int) (w : World) :
    Calls Try.prog 54 #[.agg #[.int .i64 a, .int .i64 b]] w fun e w' => e = .returned (.bool (D.may (a, b))) ∧ Below w.heap.size w w' := by
  have HA := Lib.hid (has_all (a, b))
  obtain ⟨w1, hw1⟩ : ∃ W, (w.alloc (.cells #[.int .i64 a, .int .i64 b] 39)).alloc (.cells (scs (up96 0) none 0 0) 53) = W := ⟨_, rfl⟩
  obtain ⟨g, hg⟩ : ∃ g, g = w.heap.size + 1 := ⟨_, rfl⟩
  have hb1 : Below w.heap.size w w1 := by rw [← hw1]; exact b_alloc2 _ _ _
  have hD : Blo w1 w.heap.size 39 #[.int .i64 a, .int .i64 b] := by rw [← hw1]; exact (Blo.made _ _ _).alloc _
  have hS : Blo w1 g 53 (scs (up96 0) none 0 0) := by
    rw [← hw1, hg]
    have := Blo.made (w.alloc (.cells #[.int .i64 a, .int .i64 b] 39)) 53 (scs (up96 0) none 0 0)
    simpa using this
  have HW := Lib.hid hw1
  have HG := Lib.hid hg
  have hwg : w.heap.size < g := by omega
  clear hw1 hg
  go_enter Try.func54, Try.ntmps54
  go_wp2_with fail
  have e0 : (w.alloc (.cells #[.int .i64 a, .int .i64 b] 39)).alloc (.cells #[.int .i64 0, .int .i64 0, .int .i64 0, .int .i64 0, .int .i64 0, .int .i64 0, .int .i64 0, .int .i64 0, .slice none 0 0] 53) = w1 := HW.out
  rw [e0, ← HG.out]
  go_loopw [5] (fun iv wr => ∃ i : Nat, iv = .int .i64 i ∧ i ≤ 8 ∧ Blo wr g 53 (scs (up96 i) none 0 0) ∧ w1.grownBy wr (some g)) (fun iv _ => 8 - (intOf iv).toNat)
  case atStart => exact ⟨0, rfl, by omega, hS, World.grownBy.refl _ _⟩
  case round =>
    obtain ⟨i, rfl, hi, hSr, hgr⟩ := hrel
    by_cases hlt : i < 8
    · have k0 := (hSr.cell i).trans (scs_at (up96 i) none 0 0 hlt)
      have f0 := hSr.frozen i
      have hp := hSr.put i (.int .i64 96)
      rw [up96_set hlt] at hp
      have hgp : w1.grownBy (wr.setCell ⟨g, i, none⟩ (.int .i64 96)) (some g) := gb_set hgr (.inl rfl) _
      have hi8 : (i : Int) < 8 := by omega
      go_wp2
      go_roundw
      case rel => exact ⟨i + 1, by go_num, by omega, hp, hgp⟩
      case measure => simp [intOf]; omega
    · have e8 : i = 8 := by omega
      have hS8 : Blo wr g 53 (scs (up96 8) none 0 0) := by rw [← e8]; exact hSr
      obtain ⟨z0, z1, z2, z3, z4, z5, z6, z7, z8⟩ := set9 hS8
      have hD2 := hD.grown hgr (fun e => by injection e with e; omega)
      have d0 : wr.cell? ⟨w.heap.size, 0, none⟩ = some (.int .i64 a) := by simpa using hD2.cell 0
      have d1 : wr.cell? ⟨w.heap.size, 1, none⟩ = some (.int .i64 b) := by simpa using hD2.cell 1
      have hbr : Below w.heap.size w wr := hb1.grown hgr hb1.size (fun k hk => by injection hk with hk; omega)
      have hH := has_any (fun _ => True) (up96 8) none 0 0 [] a b wr rfl Rds.nil (by omega)
      subst e8
      clear hSr hS hS8 hD hD2
      go_wp2_with fail
      refine hH.mono ?_
      rintro e w2 ⟨rfl, hb2⟩
      clear hH z0 z1 z2 z3 z4 z5 z6 z7 z8 d0 d1
      go_wp2
      go_ret
      exact ⟨ret_bool HA.out, below_new hbr hb2⟩
end Go.Proofs.Ytedcgfcmhaeldaa
