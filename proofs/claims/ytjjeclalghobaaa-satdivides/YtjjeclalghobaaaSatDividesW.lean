/- The walk of the law SatDivides. -/
import Derived.Test.YtjjeclalghobaaaSatAlive
namespace Go.Proofs.Ytjjeclalghobaaa
open Go.ChangeShapes Go.WideShapes Go.ChangeAt Go.RowKit

set_option maxHeartbeats 400000 in
theorem satDivides_walk (a b : Int) (_ : (Lit.int .i64 a).wf = true) (_ : (Lit.int .i64 b).wf = true) (w : World) :
    Calls Try.prog 5 #[.int .i64 a, .int .i64 b] w fun e w' => e = .returned (.bool true) ∧ Grown w w' := by
  by_cases hb : b ≤ 0
  · go_enter Try.func5, Try.ntmps5
    go_wp2_with fail
    refine (alive01 _).mono ?_
    rintro e w1 ⟨rfl, hg⟩
    go_wp2_with fail
    refine (cdiv_no _ _ _ hb).mono ?_
    rintro e w2 ⟨rfl, rfl⟩
    go_wp2
    go_ret
    exact ⟨rfl, hg⟩
  · have hp := S.clamp_pos (n := b) (by omega)
    have ha := S.clamp_bd a
    have hc := S.clamp_bd b
    have hs := S.up_spec (a := S.clamp a) hp
    have he : Hid (S.cdiv a b = S.up (S.clamp a) (S.clamp b)) := rfl
    have hb0 : 0 < b := by omega
    generalize hA : S.clamp a = A at *
    generalize hB : S.clamp b = B at *
    generalize S.up A B = q at *
    have HA := Lib.hid hA
    have HB := Lib.hid hB
    obtain ⟨hs1, hs2⟩ := hs
    have hs3 : -2199023255552 ≤ q * B := by omega
    have hs4 : q * B ≤ 4398046511104 := by omega
    clear hA hB
    go_enter Try.func5, Try.ntmps5
    go_wp2_with fail
    refine (alive01 _).mono ?_
    rintro e w1 ⟨rfl, hg⟩
    go_wp2_with fail
    refine (cdiv_yes _ _ _ hb0).mono ?_
    rintro e w2 ⟨rfl, hg2⟩
    rw [he.out]
    go_wp2_with fail
    refine (clamp_any _ _).mono ?_
    rintro e w3 ⟨rfl, rfl⟩
    rw [HA.out]
    go_wp2_with fail
    refine (clamp_any _ _).mono ?_
    rintro e w3 ⟨rfl, rfl⟩
    rw [HB.out]
    go_wp2
    go_ret
    exact ⟨rfl, Gr.trans hg hg2⟩
end Go.Proofs.Ytjjeclalghobaaa
