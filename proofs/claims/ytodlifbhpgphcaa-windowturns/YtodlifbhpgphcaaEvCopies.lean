/- Layer 7, the document's own: Copies. -/
import Derived.Test.YtodlifbhpgphcaaEvMem
import Derived.Test.YtodlifbhpgphcaaEvRefSame
namespace Go.Proofs.Ytodlifbhpgphcaa
set_option linter.unusedVariables false
set_option linter.unusedSimpArgs false
open Go.ChangeShapes Go.WideShapes Go.ChangeAt Go.RowKit

/-- A call answers these events, in a row of its own, their dots in blocks of its own. -/
def EvsPost (l : List E.Ev) (w : World) (e : Ending) (w' : World) : Prop :=
  ∃ A c m, e = .returned (.slice A l.length c) ∧ plain m = l ∧ EOwn w' (fun b => w.heap.size ≤ b) w.heap.size (.slice A l.length c) m ∧ Below w.heap.size w w'
/-- How far copying has come. -/
def CpSt (w0 : World) (l : List EvV) (i : Nat) (v : Value) (w : World) : Prop :=
  ∃ A N c m, v = .slice A N c ∧ Hid (N = m.length ∧ m.length = i ∧ plain m = (plain l).take i) ∧ EOwn w (fun b => w0.heap.size ≤ b) w0.heap.size (.slice A N c) m ∧ Below w0.heap.size w0 w
theorem plain_take {l : List EvV} {i : Nat} (h : i < l.length) : (plain l).take (i + 1) = (plain l).take i ++ [(l[i].F, l[i].M)] := by
  rw [List.take_succ_eq_append_getElem (by rw [plain_len]; exact h)]
  simp [plain]
theorem Copy.apart {w : World} {S : Nat → Prop} {B B2 : Nat} {v : Value} {l : List EvV} {A : Option Addr} {c : Nat} {M : List D.Dot} (h : EOwn w S B v l) (hD : Copy w B2 A c M) (hS : ∀ b, B2 ≤ b → S b) : Rds w (fun b => S b ∧ some b ≠ v.ownBlock) A (dvs M) := by
  rcases hD.2 with rfl | hD
  · exact Rds.nil
  · exact h.apart hD hS

set_option maxRecDepth 100000 in
set_option maxHeartbeats 4000000 in
theorem ecopies_any (S : Nat → Prop) (A : Option Addr) (n c : Nat) (l : List EvV) (w : World) (hn : l.length = n) (hr : ERds w S A l) (hl : n ≤ 900000) (hm : ∀ e ∈ l, e.M.length ≤ 1000000) :
    Calls Try.prog 9 #[.slice A n c] w (EvsPost (plain l) w) := by
  have HN := Lib.hid hn
  have HM := Lib.hid hm
  clear hn hm
  go_enter Try.func9, Try.ntmps9
  go_wp2_with fail
  go_loopw [3, 8] (fun ov iv wr => ∃ i : Nat, iv = .int .i64 i ∧ i ≤ n ∧ CpSt w l i ov wr) (fun _ iv _ => n - (intOf iv).toNat)
  case atStart => exact ⟨0, rfl, by omega, none, 0, 0, [], rfl, Lib.hid (by simp [plain]), EOwn.nil _ _ _, Below.refl _ _⟩
  case round =>
    obtain ⟨i, rfl, hi, Ao, No, co, m, rfl, HS, hO, hb⟩ := hrel
    by_cases hlt : i < n
    · have hlt' : i < l.length := by rw [HN.out]; exact hlt
      obtain ⟨ad, rfl, _, hrx, c0, c1, c2, c3, c4, c5, c6, c7, c8, c9, c10, c11, c12, c13⟩ := (hr.new hb).cells hlt'
      obtain ⟨x, hx⟩ : ∃ x, x = l[i] := ⟨_, rfl⟩
      rw [← hx] at hrx c0 c1 c2 c3 c4 c5 c6 c7 c8 c9 c10 c11 c12 c13
      have hxl : x.M.length ≤ 1000000 := by rw [hx]; exact HM.out _ (List.getElem_mem hlt')
      have HX := Lib.hid hx
      obtain ⟨F, M, Ax, cx⟩ := x
      simp only at hrx c0 c1 c2 c3 c4 c5 c6 c7 c8 c9 c10 c11 c12 c13 hxl
      obtain ⟨q, hq⟩ : ∃ q, M.length = q := ⟨_, rfl⟩
      rw [hq] at c13 hxl
      obtain ⟨w1, hw1⟩ : ∃ W, wr.alloc (.cells (ecs F Ax q cx) 46) = W := ⟨_, rfl⟩
      obtain ⟨g1, hg1⟩ : ∃ g, g = wr.heap.size := ⟨_, rfl⟩
      have hb1 : Below wr.heap.size wr w1 := by rw [← hw1]; exact b_alloc _ _
      have hX1 : Blo w1 g1 46 (ecs F Ax q cx) := by rw [← hw1, hg1]; exact Blo.made _ _ _
      have hcp := ecopy_any _ F Ax q cx M w1 hq (hrx.new hb1) hxl
      have HW1 := Lib.hid hw1
      have HG1 := Lib.hid hg1
      have HQ := Lib.hid hq
      clear hx hq hw1 hg1 hrx
      go_wp2_with fail
      rw [HW1.out, ← HG1.out]
      clear c0 c1 c2 c3 c4 c5 c6 c7 c8 c9 c10 c11 c12 c13
      obtain ⟨c0, c1, c2, c3, c4, c5, c6, c7, c8, c9, c10, c11, c12, c13⟩ := set14 hX1
      go_wp2_with fail
      refine hcp.mono ?_
      unfold EvPost
      rw [HQ.out]
      rintro e w2 ⟨A2, c2', rfl, hC2, hb2⟩
      have hO2 := (hO.new hb1).new hb2
      have hb02 := below_new (below_new hb hb1) hb2
      have hs2 := hb02.size
      have hap : Rds w2 (fun b => w.heap.size ≤ b ∧ some b ≠ (Value.slice Ao No co).ownBlock) A2 (dvs M) := Copy.apart hO2 hC2 (fun b hb' => Nat.le_trans (below_new hb hb1).size hb')
      have hlit := blo_ers ⟨F, M, A2, c2'⟩ (Blo.made w2 46 (EvV.cells ⟨F, M, A2, c2'⟩))
      simp only [EvV.cells, HQ.out] at hlit
      clear c0 c1 c2 c3 c4 c5 c6 c7 c8 c9 c10 c11 c12 c13 hcp hO
      go_wp2_with (at_builtin; refine wpList_eapp _ rfl _ _ rfl w.heap.size _ m rfl (hO2.new (b_alloc _ _)).row (fun _ => True) _ 1 1 [⟨F, M, A2, c2'⟩] rfl rfl hlit (by have := HS.out.2.1; omega) (by simp; omega) ?_)
      intro v3 w3 hrow3 hg3 hv3
      have hO3 := (hO2.new (b_alloc _ _)).snoc hrow3 hg3 (by simpa using hv3) (hap.alloc _)
      have hb03 : Below w.heap.size w w3 := by
        have h1 := below_new hb02 (b_alloc w2 (.cells (ecs F A2 q c2') 46))
        exact h1.grown hg3 h1.size (fun k hk => (hO2.row.lt k hk).1)
      obtain ⟨A3, c3', rfl, _⟩ := hrow3.form
      obtain ⟨N3, hN3⟩ : ∃ N, N = (m ++ [(⟨F, M, A2, c2'⟩ : EvV)]).length := ⟨_, rfl⟩
      rw [← hN3] at hO3 ⊢
      have HS3 : Hid (N3 = (m ++ [(⟨F, M, A2, c2'⟩ : EvV)]).length ∧ (m ++ [(⟨F, M, A2, c2'⟩ : EvV)]).length = i + 1 ∧ plain (m ++ [(⟨F, M, A2, c2'⟩ : EvV)]) = (plain l).take (i + 1)) := Lib.hid ⟨hN3, by simp [HS.out.2.1], by rw [plain_app, HS.out.2.2, plain_take hlt', ← HX.out]; rfl⟩
      clear hN3 hrow3 hg3 hv3 hlit hap
      go_wp2
      go_roundw
      case rel => exact ⟨i + 1, by go_num, by omega, A3, N3, c3', _, rfl, HS3, hO3, hb03⟩
      case measure => simp [intOf]; omega
    · have HE : Hid (No = (plain l).length ∧ plain m = plain l) := Lib.hid (by
        have h1 := HS.out
        have h2 : i = (plain l).length := by rw [plain_len, HN.out]; omega
        rw [h2, List.take_length] at h1
        exact ⟨by omega, h1.2.2⟩)
      go_wp2
      go_ret
      unfold EvsPost
      rw [← HE.out.1]
      exact ⟨Ao, co, m, rfl, HE.out.2, hO, hb⟩
end Go.Proofs.Ytodlifbhpgphcaa
