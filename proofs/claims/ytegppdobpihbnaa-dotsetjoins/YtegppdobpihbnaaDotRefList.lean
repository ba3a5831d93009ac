/- Layer 6: the document's List. -/
import Derived.Test.YtegppdobpihbnaaDotRefHas
namespace Go.Proofs.Ytegppdobpihbnaa
set_option linter.unusedVariables false
set_option linter.unusedSimpArgs false
open Go.ChangeShapes Go.WideShapes Go.ChangeAt Go.RowKit

set_option maxHeartbeats 2000000 in
theorem rlist_any (S : Nat → Prop) (U : Nat → Int) (A : Option Addr) (n c : Nat) (M : List D.Dot) (w : World) (hn : M.length = n) (hr : Rds w S A (dvs M)) (hl : n ≤ 1000000) :
    Calls Try.prog 14 #[sv U A n c] w (DotsPost (D.lst (D.has U M)) w) := by
  obtain ⟨T, hT⟩ : ∃ T, D.has U M = T := ⟨_, rfl⟩
  have HT := Lib.hid hT
  have HN := Lib.hid hn
  rw [hT]
  obtain ⟨w1, hw1⟩ : ∃ W, w.alloc (.cells (scs U A n c) 35) = W := ⟨_, rfl⟩
  have hb1 : Below w.heap.size w w1 := by rw [← hw1]; exact b_alloc _ _
  have hz1 : w1.heap.size = w.heap.size + 1 := by rw [← hw1]; simp
  have hSt : Blo w1 w.heap.size 35 (scs U A n c) := by rw [← hw1]; exact Blo.made _ _ _
  have hr1 := hr.new hb1
  obtain ⟨k7, hk7⟩ : ∃ k, k = 768 := ⟨_, rfl⟩
  have HK := Lib.hid hk7
  unfold D.lst
  rw [← hk7]
  have HW := Lib.hid hw1
  clear hw1 hT hn hk7 hr
  go_enter Try.func14, Try.ntmps14
  go_wp2_with fail
  rw [HW.out]
  go_loopw [3, 4] (fun ov nv wr => ∃ k : Nat, nv = .int .i64 k ∧ k ≤ 8 ∧ DRow wr w1.heap.size ov (D.pre T (k * 96)) ∧ Below w1.heap.size w1 wr) (fun _ nv _ => 8 - (intOf nv).toNat)
  case atStart => exact ⟨0, rfl, by omega, DRow.nil _ _, Below.refl _ _⟩
  case round =>
    obtain ⟨k, rfl, hk, hR, hb⟩ := hrel
    by_cases hk8 : k < 8
    · have hkd : decide ((k : Int) < 8) = true := by simp; omega
      go_wp2
      go_loopw [3, 5] (fun ov qv wr => ∃ i : Nat, qv = .int .i64 ((i : Int) + 1) ∧ i ≤ 96 ∧ DRow wr w1.heap.size ov (D.pre T (k * 96 + i)) ∧ Below w1.heap.size w1 wr) (fun _ qv _ => 97 - (intOf qv).toNat)
      case atStart => exact ⟨0, rfl, by omega, hR, hb⟩
      case round =>
        obtain ⟨i, rfl, hi, hR, hb⟩ := hrel
        have hbs := hb.size
        by_cases hi96 : i < 96
        · have hi1 : (i : Int) + 1 ≤ 96 := by omega
          obtain ⟨w2, hw2⟩ : ∃ W, wr.alloc (.cells #[.int .i64 k, .int .i64 ((i : Int) + 1)] 27) = W := ⟨_, rfl⟩
          have hb2 : Below wr.heap.size wr w2 := by rw [← hw2]; exact b_alloc _ _
          have hD2 : Blo w2 wr.heap.size 27 #[.int .i64 k, .int .i64 ((i : Int) + 1)] := by rw [← hw2]; exact Blo.made _ _ _
          have hSt2 := (hSt.new hb).new hb2
          obtain ⟨z0, z1, z2, z3, z4, z5, z6, z7, z8⟩ := set9 (hSt.new hb)
          have hgl := (hSt.new hb).lt
          have k0 : w2.cell? ⟨wr.heap.size, 0, none⟩ = some (.int .i64 k) := by simpa using hD2.cell 0
          have k1 : w2.cell? ⟨wr.heap.size, 1, none⟩ = some (.int .i64 ((i : Int) + 1)) := by simpa using hD2.cell 1
          have hH := rhas_any S U A n c M (k : Int) ((i : Int) + 1) w2 HN.out ((hr1.new hb).new hb2) hl
          rw [HT.out] at hH
          have hR2 := hR.new hb2
          have hb02 := below_new hb hb2
          have HW2 := Lib.hid hw2
          clear hw2 hR
          cases hTv : T ((k : Int), (i : Int) + 1) with
          | false =>
            rw [hTv] at hH
            have HE : Hid (D.pre T (k * 96 + i + 1) = D.pre T (k * 96 + i)) := Lib.hid (D.pre_no (by rw [D.dt_at k i hi96]; exact hTv))
            clear hTv
            go_wp2_with fail
            rw [HW2.out]
            refine hH.mono ?_
            rintro e w3 ⟨rfl, hb3⟩
            have hR3 := hR2.new hb3
            have hb03 := below_new hb02 hb3
            clear hH z0 z1 z2 z3 z4 z5 z6 z7 z8 k0 k1
            go_wp2
            go_roundw
            case rel => exact ⟨i + 1, by go_num, by omega, by rw [← Nat.add_assoc, HE.out]; exact hR3, hb03⟩
            case measure => simp [intOf]; omega
          | true =>
            rw [hTv] at hH
            have HE : Hid (D.pre T (k * 96 + i + 1) = D.pre T (k * 96 + i) ++ [((k : Int), (i : Int) + 1)]) := Lib.hid (by rw [D.pre_yes (by rw [D.dt_at k i hi96]; exact hTv), D.dt_at k i hi96])
            have hlen := D.pre_len T (k * 96 + i)
            clear hTv
            go_wp2_with fail
            rw [HW2.out]
            refine hH.mono ?_
            rintro e w3 ⟨rfl, hb3⟩
            have hR3 := hR2.new hb3
            have hD3 := hD2.new hb3
            have hb03 := below_new hb02 hb3
            have hs3 := hb03.size
            clear hH z0 z1 z2 z3 z4 z5 z6 z7 z8 k0 k1
            have k0 : w3.cell? ⟨wr.heap.size, 0, none⟩ = some (.int .i64 k) := by simpa using hD3.cell 0
            have k1 : w3.cell? ⟨wr.heap.size, 1, none⟩ = some (.int .i64 ((i : Int) + 1)) := by simpa using hD3.cell 1
            obtain ⟨Mq, hMq⟩ : ∃ V, V = D.pre T (k * 96 + i) := ⟨_, rfl⟩
            rw [← hMq] at hR3 hlen HE
            clear hMq hR2
            go_wp2_with (at_builtin; refine wpList_dapp _ rfl _ _ rfl w1.heap.size _ Mq rfl (hR3.alloc _) (fun _ => True) _ 1 1 [((k : Int), (i : Int) + 1)] rfl rfl (dot_rds _ _ _ _) (by omega) (by simp; omega) ?_)
            intro v' V hown hg _
            have hbV : Below w1.heap.size w1 V := (hb03.alloc hs3 _).grown hg (by simp; omega) (fun k hk => (hR3.lt k hk).1)
            clear hg k0 k1
            go_wp2
            go_roundw
            case rel => exact ⟨i + 1, by go_num, by omega, by rw [← Nat.add_assoc, HE.out, hz1]; exact hown, hbV⟩
            case measure => simp [intOf]; omega
        · have e96 : k * 96 + i = (k + 1) * 96 := by omega
          rw [e96] at hR
          have hi1 : ¬ (i : Int) + 1 ≤ 96 := by omega
          clear e96
          go_wp2
          go_roundw
          case rel => exact ⟨k + 1, by go_num, by omega, hR, hb⟩
          case measure => simp [intOf]; omega
    · have e8 : k * 96 = k7 := by rw [HK.out]; omega
      rw [e8] at hR
      clear e8
      obtain ⟨A', c', e, _⟩ := hR.form
      generalize D.pre T k7 = Mq at *
      subst e
      go_wp2
      go_ret
      exact ⟨A', c', rfl, hR.mono (by omega), below_new hb1 hb⟩
end Go.Proofs.Ytegppdobpihbnaa
