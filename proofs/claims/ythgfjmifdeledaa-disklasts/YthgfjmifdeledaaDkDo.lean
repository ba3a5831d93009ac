/- Layer 13: a step of a disk; the document's own Do. -/
import Derived.Test.YthgfjmifdeledaaDkStp
namespace Go.Proofs.Ythgfjmifdeledaa
set_option linter.unusedVariables false
set_option linter.unusedSimpArgs false
open Go.ChangeShapes Go.WideShapes Go.ChangeAt Go.RowKit Go.Deep

/-- A step as a value. -/
abbrev opv (k N : Int) (A : Option Addr) (n c : Nat) : Value := .agg #[.int .i64 k, .int .i64 N, .slice A n c]
/-- What a step leaves. -/
def StpPost (s : Int × List Int × List Dk.U) (Z : Int) (fp : Nat → Prop) (g : Nat) (w : World) (e : Ending) (w' : World) : Prop := DskPost (.int .i64 s.1) Z s.2.1 s.2.2 fp g w e w'
set_option maxRecDepth 100000 in
set_option maxHeartbeats 4000000 in
theorem rdo_any {w : World} {fp : Nat → Prop} {g : Nat} {Z : Int} {L : List Int} {us : List Dk.U} (hM : MD w fp g Z L us) (hO : Dk.Ok Z L us) (hl : us.length ≤ 900000000)
    (k N : Int) (S : Nat → Prop) (A : Option Addr) (n c : Nat) (xs : List Int) (hn : xs.length = n) (hr : Rds w S A (u8s xs)) (hS : ∀ b, S b → b < w.heap.size → ¬ fp b) (hn47 : n ≤ 140737488355328) :
    Calls Try.prog 12 #[.pointer (some ⟨g, 0, none⟩), opv k N A n c] w (StpPost (Dk.stp Z L us k N xs) Z fp g w) := by
  obtain ⟨w1, hw1⟩ : ∃ W, w.alloc (.cells #[.int .i64 k, .int .i64 N, .slice A n c] 37) = W := ⟨_, rfl⟩
  have hb1 : Below w.heap.size w w1 := by rw [← hw1]; exact b_alloc _ _
  have hB1 : Blo w1 w.heap.size 37 #[.int .i64 k, .int .i64 N, .slice A n c] := by rw [← hw1]; exact Blo.made _ _ _
  have hM1 := (hM.mono (fq := fun b => fp b ∧ b < w.heap.size) fun b hb hl => ⟨hb, hl⟩).new hb1
  have hr1 := hr.new hb1
  have hs1 := hb1.size
  have hS1 : ∀ b, (S b ∧ b < w.heap.size) → b < w1.heap.size → ¬ (fp b ∧ b < w.heap.size) := fun b hb hl hf => hS b hb.1 hb.2 hf.1
  have hr1' := hr.old.new hb1
  obtain ⟨k0, k1, k2, _⟩ := mdk_cells hB1
  have HS : Hid (∀ (r : Int) (L' : List Int) (us' : List Dk.U) (e : Ending) (w' : World), DskPost (.int .i64 r) Z L' us' (fun b => fp b ∧ b < w.heap.size) g w1 e w' → Dk.stp Z L us k N xs = (r, L', us') → StpPost (Dk.stp Z L us k N xs) Z fp g w e w') := Lib.hid (fun r L' us' e w' h he => by
    rw [he]
    obtain ⟨rfl, h2, h3⟩ := h
    exact ⟨rfl, h2.mono fun b hb _ => by rcases hb with hb | hb; exact .inl hb.1; exact .inr (by omega), (Kp.of hb1).trans h3 fun b hb => .inl hb.1⟩)
  have HA := Lib.hid (rappend_any hM1 hO hl _ A n c xs hn hr1' hS1 hn47)
  have HB := Lib.hid (rswap_any hM1 hl _ A n c xs hn hr1' hn47)
  have HC := Lib.hid (rcrash_any hM1 hO (by omega) N)
  have HD := Lib.hid (rsync_any hM1 hO (by omega))
  have HM := Lib.hid hM1
  clear hM1 hr1 hr1' hM hr hn
  by_cases h1 : k = 1
  · have HE : Hid (Dk.stp Z L us k N xs = (Dk.apE Z L us xs, L, Dk.apU Z L us xs)) := Lib.hid (by unfold Dk.stp; rw [if_pos h1])
    subst h1
    go_enter Try.func12, Try.ntmps12
    go_wp2_with fail
    refine HA.out.mono ?_
    rintro e w2 ⟨rfl, h2, h3⟩
    go_wp2
    go_ret
    exact HS.out _ _ _ _ _ ⟨rfl, h2, h3⟩ HE.out
  · by_cases h2 : k = 2
    · have HE : Hid (Dk.stp Z L us k N xs = (Dk.swE Z xs, L, Dk.swU Z us xs)) := Lib.hid (by unfold Dk.stp; rw [if_neg h1, if_pos h2])
      subst h2
      go_enter Try.func12, Try.ntmps12
      go_wp2_with fail
      refine HB.out.mono ?_
      rintro e w2 ⟨rfl, h2, h3⟩
      go_wp2
      go_ret
      exact HS.out _ _ _ _ _ ⟨rfl, h2, h3⟩ HE.out
    · by_cases h3 : k = 3
      · have HE : Hid (Dk.stp Z L us k N xs = (0, Dk.aft L us, [])) := Lib.hid (by unfold Dk.stp; rw [if_neg h1, if_neg h2, if_pos h3])
        subst h3
        go_enter Try.func12, Try.ntmps12
        go_wp2_with fail
        refine HD.out.mono ?_
        rintro e w2 ⟨rfl, h2, h3⟩
        go_wp2
        go_ret
        exact HS.out _ _ _ _ _ ⟨rfl, h2, h3⟩ HE.out
      · by_cases h4 : k = 4
        · have HE : Hid (Dk.stp Z L us k N xs = (0, Dk.aft L (us.take (Dk.cut N us.length)), [])) := Lib.hid (by unfold Dk.stp; rw [if_neg h1, if_neg h2, if_neg h3, if_pos h4])
          subst h4
          go_enter Try.func12, Try.ntmps12
          go_wp2_with fail
          refine HC.out.mono ?_
          rintro e w2 ⟨rfl, h2, h3⟩
          go_wp2
          go_ret
          exact HS.out _ _ _ _ _ ⟨rfl, h2, h3⟩ HE.out
        · have HE : Hid (Dk.stp Z L us k N xs = (0, L, us)) := Lib.hid (by unfold Dk.stp; rw [if_neg h1, if_neg h2, if_neg h3, if_neg h4])
          go_enter Try.func12, Try.ntmps12
          go_wp2
          go_ret
          exact HS.out _ _ _ _ _ ⟨rfl, HM.out.mono fun b hb _ => .inl hb, Kp.refl _ _⟩ HE.out
end Go.Proofs.Ythgfjmifdeledaa
