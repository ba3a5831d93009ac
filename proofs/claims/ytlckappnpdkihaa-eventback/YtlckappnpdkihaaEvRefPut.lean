/- Layer 7, the document's own: Put. -/
import Derived.Test.YtlckappnpdkihaaEvRefNum
import Derived.Test.YtlckappnpdkihaaEvRefRight
import Derived.Test.YtlckappnpdkihaaVint
import Derived.Test.YtlckappnpdkihaaEvMem
namespace Go.Proofs.Ytlckappnpdkihaa
set_option linter.unusedVariables false
set_option linter.unusedSimpArgs false
open Go.ChangeShapes Go.WideShapes Go.ChangeAt Go.RowKit

set_option maxRecDepth 100000 in
set_option maxHeartbeats 4000000 in
theorem eput_any (S : Nat → Prop) (F : Nat → Int) (A : Option Addr) (n c : Nat) (M : List D.Dot) (w : World) (hn : M.length = n) (hr : Rds w S A (dvs M)) (hl : n ≤ maxLen) :
    Calls Try.prog 22 #[ev F A n c] w (BytesPost7 (E.putB F M) (E.putE F M) w) := by
  have HN := Lib.hid hn
  obtain ⟨w1, hw1⟩ : ∃ W, w.alloc (.cells (ecs F A n c) 28) = W := ⟨_, rfl⟩
  obtain ⟨g1, hg1⟩ : ∃ g, g = w.heap.size := ⟨_, rfl⟩
  have hb1 : Below w.heap.size w w1 := by rw [← hw1]; exact b_alloc _ _
  have hX1 : Blo w1 g1 28 (ecs F A n c) := by rw [← hw1, hg1]; exact Blo.made _ _ _
  have hR := eright_any S F A n c M w1 hn (hr.new hb1) hl
  have HW := Lib.hid hw1
  have HG := Lib.hid hg1
  have hr1 := hr.new hb1
  clear hw1 hg1 hn hr
  go_enter Try.func22, Try.ntmps22
  go_wp2_with fail
  rw [HW.out, ← HG.out]
  refine hR.mono ?_
  rintro e w2 ⟨rfl, hb2⟩
  have hX2 := hX1.new hb2
  have hr2 := hr1.new hb2
  have hb02 := below_new hb1 hb2
  clear hR hX1 hr1 hb1 hb2
  cases hrt : E.right F M with
  | false =>
    have HB : Hid (E.putB F M = [] ∧ E.putE F M = 2) := Lib.hid (by unfold E.putB E.putE; rw [hrt]; exact ⟨rfl, rfl⟩)
    clear hrt
    go_wp2
    go_ret2
    rw [HB.out.1, HB.out.2]
    exact ⟨none, 0, 0, rfl, rfl, World.ownsRow_nil _ _ _ _, hb02⟩
  | true =>
    have HB : Hid (E.putB F M = V.encs (E.nums F M) ∧ E.putE F M = 0) := Lib.hid (by unfold E.putB E.putE; rw [hrt]; exact ⟨rfl, rfl⟩)
    have h96 : n ≤ 96 := by rw [← HN.out]; exact (E.right_parts hrt).2.2.1
    have HI := Lib.hid (nums_in hrt)
    have hnl := nums_len (F := F) (M := M) (by rw [HN.out]; exact h96)
    have hNu := enums_any S F A n c M w2 HN.out hr2 (by omega)
    obtain ⟨z0, z1, z2, z3, z4, z5, z6, z7, z8, z9, z10, z11, z12, z13⟩ := set14 hX2
    obtain ⟨l, hll⟩ : ∃ l, l = E.nums F M := ⟨_, rfl⟩
    rw [← hll] at hNu HI HB hnl
    unfold IntsPost at hNu
    clear hrt hll
    go_wp2_with fail
    refine hNu.mono ?_
    rintro e w3 ⟨A3, N3, c3, rfl, hN3, ho3, hb3⟩
    have hb03 := below_new hb02 hb3
    have hr3 := own_rds ho3
    have HN3 := Lib.hid hN3
    have hN3l : N3 ≤ 300 := by omega
    have hs03 := hb03.size
    clear z0 z1 z2 z3 z4 z5 z6 z7 z8 z9 z10 z11 z12 z13 hNu hN3 hX2 hr2 hb3 ho3
    go_wp2_with fail
    go_loopw [4, 13] (fun v iv wr => ∃ (i : Nat) (A4 : Option Addr) (N4 c4 : Nat), iv = .int .i64 i ∧ i ≤ N3 ∧ v = .slice A4 N4 c4 ∧ Hid (N4 = (V.encs (l.take i)).length) ∧ wr.ownsRow w.heap.size 5 1 (.slice A4 N4 c4) N4 (u8s (V.encs (l.take i))) ∧ Below w3.heap.size w3 wr) (fun _ iv _ => N3 - (intOf iv).toNat)
    case atStart => exact ⟨0, none, 0, 0, rfl, by omega, rfl, Lib.hid rfl, World.ownsRow_nil _ _ _ _, Below.refl _ _⟩
    case round =>
      obtain ⟨i, A4, N4, c4, rfl, hi, rfl, HN4, ho4, hb4⟩ := hrel
      have hbs := hb4.size
      by_cases hlt : i < N3
      · have hlt' : i < l.length := by rw [← HN3.out]; exact hlt
        obtain ⟨ad, rfl, _, d0⟩ := (hr3.new hb4).at (j := i) (by simpa using hlt')
        have htk := List.take_succ_eq_append_getElem hlt'
        have hin := HI.out l[i] (List.getElem_mem hlt')
        have d1 : wr.cell? (ad.add i) = some (.int .i64 l[i]) := by simpa using d0
        clear d0
        obtain ⟨x, hx⟩ : ∃ x, x = l[i] := ⟨_, rfl⟩
        rw [← hx] at d1 htk hin
        have hel : (V.encs (l.take i)).length ≤ 6 * (l.take i).length := V.encs_len _ (fun m hm => HI.out m (List.mem_of_mem_take hm))
        have HTK : Hid (V.encs (l.take (i + 1)) = V.encs (l.take i) ++ V.enc x) := Lib.hid (by rw [htk, V.encs_snoc])
        obtain ⟨G, hG⟩ : ∃ G, G = V.encs (l.take i) := ⟨_, rfl⟩
        have hGl : G.length ≤ 1800 := by rw [hG]; simp at hel; omega
        rw [← hG] at HN4 ho4 HTK
        have hp : Calls Try.prog 41 #[.slice A4 N4 c4, .int .i64 x] wr fun e w' => ∃ A' N' c', e = .returned (.tuple #[.slice A' N' c', .int .i64 0]) ∧ N' = (G ++ V.enc x).length ∧ w'.ownsRow wr.heap.size 5 1 (.slice A' N' c') N' (u8s (G ++ V.enc x)) ∧ Below wr.heap.size wr w' := by
          rw [HN4.out] at ho4 ⊢
          refine (rput_yes _ A4 c4 G x wr (own_rds ho4) (by omega) hin.1 hin.2).mono ?_
          rintro e w' ⟨A', c', rfl, ho, hb⟩
          exact ⟨A', _, c', rfl, rfl, ho, hb⟩
        clear hx htk hG hin hel
        go_wp2_with fail
        refine hp.mono ?_
        rintro e w5 ⟨A5, N5, c5, rfl, hN5, ho5, hb5⟩
        have HN5 := Lib.hid hN5
        clear hp hN5 d1
        go_wp2
        go_roundw
        case rel => exact ⟨i + 1, A5, N5, c5, by go_num, by omega, rfl, by rw [HTK.out]; exact HN5, by rw [HTK.out]; exact own_mono ho5 (by omega), hb4.trans (hb5.mono hbs)⟩
        case measure => simp [intOf]; omega
      · have HF : Hid (V.encs (l.take i) = V.encs l) := Lib.hid (by rw [List.take_of_length_le (by rw [← HN3.out]; omega)])
        go_wp2
        go_ret2
        rw [HB.out.1, HB.out.2, ← HF.out]
        exact ⟨A4, N4, c4, rfl, HN4.out, ho4, below_new hb03 hb4⟩
end Go.Proofs.Ytlckappnpdkihaa
