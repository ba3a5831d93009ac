/- Layer 7, the program's reader: number, end. -/
import Derived.Test.YtlckappnpdkihaaEvW1
import Derived.Test.YtlckappnpdkihaaVintFace
import Derived.Test.YtlckappnpdkihaaEvMath
import Derived.Test.YtlckappnpdkihaaFam
namespace Go.Proofs.Ytlckappnpdkihaa
set_option linter.unusedVariables false
set_option linter.unusedSimpArgs false
open Go.ChangeShapes Go.WideShapes Go.ChangeAt Go.RowKit

/-- A number is read into p: it is there; or reading gives up. -/
def RnumPost (g h : Nat) (p : Addr) (st : D.St) (w : World) (e : Ending) (w' : World) : Prop :=
  ∃ W, w.grownBy W (some g) ∧ Rdr W g h (D.nxt st).2.1 (D.nxt st).2.2 ∧ Below (W.setCell p (.int .i64 (D.nxt st).1)).heap.size (W.setCell p (.int .i64 (D.nxt st).1)) w' ∧
    (((D.nxt st).2.2 = 0 ∧ e = .returned (.tuple #[])) ∨ ((D.nxt st).2.2 ≠ 0 ∧ e = gave (D.nxt st).2.2))

set_option maxRecDepth 100000 in
set_option maxHeartbeats 4000000 in
theorem rnum_any {g h gr : Nat} {p : Addr} {st : D.St} {o : Value} {w : World} (hst : st.2 = 0) (hR : Rdr w g h st.1 st.2) (hM : Blo w gr 96 #[.pointer (some ⟨g, 0, none⟩)]) (hp : w.cell? p = some o) (hf : w.frozen? p = false) (hpg : p.block ≠ g) (hph : p.block ≠ h) (hpr : p.block ≠ gr) :
    Calls Try.prog 62 #[.pointer (some ⟨gr, 0, none⟩), .pointer (some p)] w (RnumPost g h p st w) := by
  obtain ⟨l, x⟩ := st
  simp only at hst
  subst hst
  have hI := int_all hR
  have hgr : g ≠ gr := by obtain ⟨_, _, _, _, A, c, hb, _⟩ := hR; exact hb.typeNe hM (by decide)
  obtain ⟨v, hv⟩ : ∃ v, v = (D.nxt (l, 0)).1 := ⟨_, rfl⟩
  obtain ⟨l', hl'⟩ : ∃ l', l' = (D.nxt (l, 0)).2.1 := ⟨_, rfl⟩
  obtain ⟨x, hx⟩ : ∃ x, x = (D.nxt (l, 0)).2.2 := ⟨_, rfl⟩
  have hI : Calls Try.prog 74 #[.pointer (some ⟨g, 0, none⟩)] w fun e w' => e = .returned (.int .i64 v) ∧ Rdr w' g h l' x ∧ w.grownBy w' (some g) := by rw [hv, hl', hx]; exact hI
  unfold RnumPost
  rw [← hv, ← hl', ← hx]
  have m0 : w.cell? ⟨gr, 0, none⟩ = some (.pointer (some ⟨g, 0, none⟩)) := by simpa using hM.cell 0
  have hplt : p.block < w.heap.size := Go.Proofs.Ytlckappnpdkihaa.M.cellLt hp
  clear hv hl' hx
  go_enter Try.func62, Try.ntmps62
  go_wp2_with fail
  refine hI.mono ?_
  rintro e w1 ⟨rfl, hR1, hg1⟩
  have hblk : w1.heap[p.block]? = w.heap[p.block]? := hg1.block _ hplt (fun e => by injection e with e; exact hpg e)
  have hp1 : w1.cell? p = some o := (World.cell?_of_block (w := w) hblk).trans hp
  have hf1 : w1.frozen? p = false := by
    have : w1.frozen? p = w.frozen? p := by unfold World.frozen?; rw [hblk]
    rw [this]; exact hf
  have hgp : w1.grownBy (w1.setCell p (.int .i64 v)) (some p.block) := gb_set (World.grownBy.refl _ _) (.inl rfl) _
  have hR2 : Rdr (w1.setCell p (.int .i64 v)) g h l' x := hR1.grown hgp (fun e => by injection e with e; exact hpg e.symm) (fun e => by injection e with e; exact hph e.symm)
  have hM2 : Blo (w1.setCell p (.int .i64 v)) gr 96 #[.pointer (some ⟨g, 0, none⟩)] := (hM.grown hg1 (fun e => by injection e with e; exact hgr e.symm)).grown hgp (fun e => by injection e with e; exact hpr e.symm)
  obtain ⟨w2, hw2⟩ : ∃ W, w1.setCell p (.int .i64 v) = W := ⟨_, rfl⟩
  rw [hw2] at hR2 hM2
  have HW2 := Lib.hid hw2
  clear m0 hgp hw2
  go_wp2_with fail
  rw [HW2.out]
  have HM : Hid (∀ V, Grows w2 V → V.cell? ⟨gr, 0, none⟩ = some (.pointer (some ⟨g, 0, none⟩))) := Lib.hid (fun V hV => by simpa using (hM2.new hV).cell 0)
  have HE : Hid (∀ V, Grows w2 V → Calls Try.prog 75 #[.pointer (some ⟨g, 0, none⟩)] V fun e w' => e = .returned (.int .i64 x) ∧ Below V.heap.size V w') := Lib.hid (fun V hV => (err_any (hR2.new hV)).mono fun e w' ⟨he, hw⟩ => ⟨he, by rw [← hw]; exact Below.refl _ _⟩)
  refine wp_fam (n := 11) (size := 23) (D := [11, 12, 13, 14, 15, 16, 17, 18, 19, 20, 21]) [(11, isV (.pointer (some ⟨gr, 0, none⟩))), (12, isV (.pointer (some ⟨gr, 0, none⟩))), (13, isV (.pointer (some ⟨gr, 0, none⟩))), (14, isV (.pointer (some ⟨g, 0, none⟩))), (15, isV (.int .i64 x)), (16, isV (.bool (x == 0))), (17, isV (.pointer (some ⟨gr, 0, none⟩))), (18, isV (.pointer (some ⟨gr, 0, none⟩))), (19, isV (.pointer (some ⟨gr, 0, none⟩))), (20, isV (.pointer (some ⟨g, 0, none⟩))), (21, isV (.int .i64 x))] (by kernel_rfl) (by rfl) (by kernel_rfl) ?_ ?_
  · simp only [List.take_succ_cons, List.take_zero, famAll]
    repeat' apply And.intro
    · intro f V hg hl
      simp [Oper.looksAt, Op.operands, Call.operands, famAt, famOf, isV] at hl
      simp [famWants, boolIs_bool, boolIs_undef, execOp, rho, go_sem, hl, famUpon, famOf, isV, Grows.refl]
    · intro f V hg hl
      simp [Oper.looksAt, Op.operands, Call.operands, famAt, famOf, isV] at hl
      simp [famWants, boolIs_bool, boolIs_undef, execOp, rho, go_sem, hl, famUpon, famOf, isV, Grows.refl]
    · intro f V hg hl
      simp [Oper.looksAt, Op.operands, Call.operands, famAt, famOf, isV] at hl
      simp [famWants, boolIs_bool, boolIs_undef, execOp, rho, go_sem, hl, famUpon, famOf, isV, Grows.refl]
    · intro f V hg hl
      have k0 := HM.out V hg
      simp [Oper.looksAt, Op.operands, Call.operands, famAt, famOf, isV] at hl
      simp [famWants, boolIs_bool, boolIs_undef, execOp, rho, go_sem, hl, k0, famUpon, famOf, isV, Grows.refl]
    · intro f V hg hl
      simp [Oper.looksAt, Op.operands, Call.operands, famAt, famOf, isV] at hl
      simp [famWants, boolIs_bool, boolIs_undef, execOp, rho, go_sem, hl, famUpon, famOf, isV, Grows.refl]
      exact HE.out V hg
    · intro f V hg hl
      simp [Oper.looksAt, Op.operands, Call.operands, famAt, famOf, isV] at hl
      simp [famWants, boolIs_bool, boolIs_undef, execOp, rho, go_sem, hl, famUpon, famOf, isV, Grows.refl]
    · intro f V hg hl
      simp [Oper.looksAt, Op.operands, Call.operands, famAt, famOf, isV] at hl
      simp [famWants, boolIs_bool, boolIs_undef, execOp, rho, go_sem, hl, famUpon, famOf, isV, Grows.refl]
    · intro f V hg hl
      simp [Oper.looksAt, Op.operands, Call.operands, famAt, famOf, isV] at hl
      simp [famWants, boolIs_bool, boolIs_undef, execOp, rho, go_sem, hl, famUpon, famOf, isV, Grows.refl]
    · intro f V hg hl
      simp [Oper.looksAt, Op.operands, Call.operands, famAt, famOf, isV] at hl
      simp [famWants, boolIs_bool, boolIs_undef, execOp, rho, go_sem, hl, famUpon, famOf, isV, Grows.refl]
    · intro f V hg hl
      have k0 := HM.out V hg
      simp [Oper.looksAt, Op.operands, Call.operands, famAt, famOf, isV] at hl
      simp [famWants, boolIs_bool, boolIs_undef, execOp, rho, go_sem, hl, k0, famUpon, famOf, isV, Grows.refl]
    · intro f V hg hl
      simp [Oper.looksAt, Op.operands, Call.operands, famAt, famOf, isV] at hl
      simp [famWants, boolIs_bool, boolIs_undef, execOp, rho, go_sem, hl, famUpon, famOf, isV, Grows.refl]
      exact HE.out V hg
    · trivial
  · intro u V hg hu
    have h16 : u 16 = .bool (x == 0) := hu 16 (by decide)
    have h21 : u 21 = .int .i64 x := hu 21 (by decide)
    simp only [List.drop_succ_cons, List.drop_zero, fill, Act.put, List.setIfInBounds_toArray, List.set_cons_zero, List.set_cons_succ, h16, h21]
    clear hu h16 h21 HM HE hM2 hR2
    by_cases hx : x = 0
    · have hx' : (x == 0) = true := by simpa using hx
      have HX := Lib.hid hx
      rw [hx']
      clear hx hx'
      go_wp2_with fail
      refine (eneed_yes _ _).mono ?_
      rintro e w3 ⟨rfl, rfl⟩
      go_wp2
      go_end0
      refine ⟨w1, hg1, hR1, ?_, .inl ⟨HX.out, rfl⟩⟩
      rw [HW2.out]; exact hg
    · have hx' : (x == 0) = false := by simpa using hx
      have HX := Lib.hid hx
      rw [hx']
      clear hx hx'
      go_wp2_with fail
      refine (eneed_no _ _).mono ?_
      rintro e w3 ⟨rfl, rfl⟩
      go_wp2
      refine ⟨rfl, w1, hg1, hR1, ?_, .inr ⟨HX.out, rfl⟩⟩
      rw [HW2.out]; exact hg

set_option maxHeartbeats 1000000 in
theorem rend_any {g h gr : Nat} {l : List Int} {x : Int} {w : World} (hR : Rdr w g h l x) (hM : Blo w gr 96 #[.pointer (some ⟨g, 0, none⟩)]) :
    Calls Try.prog 48 #[.pointer (some ⟨gr, 0, none⟩)] w fun e w' => w = w' ∧ ((l = [] ∧ e = .returned (.tuple #[])) ∨ (l ≠ [] ∧ e = gave 4)) := by
  have m0 : w.cell? ⟨gr, 0, none⟩ = some (.pointer (some ⟨g, 0, none⟩)) := by simpa using hM.cell 0
  have hle := left_any hR
  by_cases hl : l = []
  · have h0 : ((l.length : Int) == 0) = true := by simp [hl]
    have HL := Lib.hid hl
    clear hl
    obtain ⟨n, hn⟩ : ∃ n : Int, n = (l.length : Int) := ⟨_, rfl⟩
    rw [← hn] at h0 hle
    clear hn
    go_enter Try.func48, Try.ntmps48
    go_wp2_with fail
    refine hle.mono ?_
    rintro e w1 ⟨rfl, rfl⟩
    go_wp2_with fail
    refine (eneed_yes _ _).mono ?_
    rintro e w3 ⟨rfl, rfl⟩
    go_wp2
    go_end0
    exact ⟨rfl, .inl ⟨HL.out, rfl⟩⟩
  · have h0 : ((l.length : Int) == 0) = false := by
      have : l.length ≠ 0 := fun h => hl (List.eq_nil_of_length_eq_zero h)
      simp; omega
    have HL := Lib.hid hl
    clear hl
    obtain ⟨n, hn⟩ : ∃ n : Int, n = (l.length : Int) := ⟨_, rfl⟩
    rw [← hn] at h0 hle
    clear hn
    go_enter Try.func48, Try.ntmps48
    go_wp2_with fail
    refine hle.mono ?_
    rintro e w1 ⟨rfl, rfl⟩
    go_wp2_with fail
    refine (eneed_no _ _).mono ?_
    rintro e w3 ⟨rfl, rfl⟩
    go_wp2
    exact ⟨rfl, rfl, .inr ⟨HL.out, rfl⟩⟩
end Go.Proofs.Ytlckappnpdkihaa
