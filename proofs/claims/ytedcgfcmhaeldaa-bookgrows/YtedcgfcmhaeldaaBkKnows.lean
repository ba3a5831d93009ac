/- Layer 8, the law's own: knows. -/
import Derived.Test.YtedcgfcmhaeldaaBkLaw
import Derived.Test.YtedcgfcmhaeldaaBkP8
import Derived.Test.YtedcgfcmhaeldaaBkP9
import Derived.Test.YtedcgfcmhaeldaaDotRow
import Derived.Test.YtedcgfcmhaeldaaEvRefSames
namespace Go.Proofs.Ytedcgfcmhaeldaa
set_option linter.unusedVariables false
set_option linter.unusedSimpArgs false
open Go.ChangeShapes Go.WideShapes Go.ChangeAt Go.RowKit

/-- The rows of what holds are short. -/
theorem hold_short {b : B.Bk} (h : B.Ok b) {l : List EvV} (hl : ∀ x ∈ plain l, x ∈ b.hold) : ∀ e ∈ l, e.M.length ≤ 1000000 := fun e he => by
  have h1 := hl (e.F, e.M) (List.mem_map.2 ⟨e, he, rfl⟩)
  have := (B.right_may (h.rt _ h1)).2.2.2.2
  simp only at this
  omega
theorem saw_ext {a b : B.Bk} (h : ∀ d, a.saw d = b.saw d) : a.saw = b.saw := funext h
set_option maxRecDepth 100000 in
set_option maxHeartbeats 4000000 in
theorem knows_any {w0 W : World} {ga gb : Nat} {ma mb : Option Nat} {a b : B.Bk} (h : Two w0 W ga gb ma mb a b) (hs : ∀ d, a.saw d = b.saw d) (hh : a.hold = b.hold) (hlen : a.hold.length ≤ 1000000) :
    Calls Try.prog 33 #[.pointer (some ⟨ga, 0, none⟩), .pointer (some ⟨gb, 0, none⟩)] W fun e w' => e = .returned (.bool true) ∧ Below W.heap.size W w' := by
  have h1 := bseen_any W h.a.pb
  obtain ⟨U, hU⟩ : ∃ U, U = D.cU a.saw := ⟨_, rfl⟩
  obtain ⟨M, hM⟩ : ∃ M, M = D.cM a.saw := ⟨_, rfl⟩
  obtain ⟨n, hn⟩ : ∃ n, M.length = n := ⟨_, rfl⟩
  have hnl : n ≤ 1000000 := by rw [← hn, hM]; exact Nat.le_trans (D.cM_len _) (by omega)
  have e0 : b.saw = a.saw := (saw_ext hs).symm
  rw [← hU, ← hM] at h1
  have HB : Hid (∀ V, Below W.heap.size W V → Calls Try.prog 19 #[.pointer (some ⟨gb, 0, none⟩)] V (CopyPost U M V)) := Lib.hid (fun V hV => by
    have := bseen_any V (h.new hV).b.pb
    rw [e0, ← hU, ← hM] at this
    exact this)
  have HEA : Hid (∀ V, Below W.heap.size W V → Calls Try.prog 15 #[.pointer (some ⟨ga, 0, none⟩)] V (NewP a.hold V)) := Lib.hid (fun V hV => bevents_any V (h.new hV).a.pb)
  have HEB : Hid (∀ V, Below W.heap.size W V → Calls Try.prog 15 #[.pointer (some ⟨gb, 0, none⟩)] V (NewP a.hold V)) := Lib.hid (fun V hV => by
    rw [hh]
    exact bevents_any V (h.new hV).b.pb)
  have HOK := Lib.hid h.a.pb.1
  have HN := Lib.hid hn
  clear hU hM hn e0 hs hh h
  go_enter Try.func33, Try.ntmps33
  go_wp2_with fail
  refine h1.mono ?_
  rintro e w1 ⟨A1, c1, rfl, hC1, hb1⟩
  rw [HN.out]
  have h2 := from_any _ U A1 n c1 M w1 HN.out hC1.rds hnl
  clear h1
  go_wp2_with fail
  refine h2.mono ?_
  rintro e w2 ⟨A2, c2, rfl, hC2, hb2⟩
  rw [HN.out]
  have hb02 := below_new hb1 hb2
  have h3 := HB.out w2 hb02
  clear h2 hC1
  go_wp2_with fail
  refine h3.mono ?_
  rintro e w3 ⟨A3, c3, rfl, hC3, hb3⟩
  rw [HN.out]
  have hb03 := below_new hb02 hb3
  have h4 := from_any _ U A3 n c3 M w3 HN.out hC3.rds hnl
  have hC2' := hC2.new hb3
  clear h3 hC2
  go_wp2_with fail
  refine h4.mono ?_
  rintro e w4 ⟨A4, c4, rfl, hC4, hb4⟩
  rw [HN.out]
  have hb04 := below_new hb03 hb4
  have h5 := rsame_yes _ _ U A2 A4 n c2 c4 M w4 HN.out (hC2'.new hb4).rds hC4.rds hnl
  clear h4 hC2' hC3
  go_wp2_with fail
  refine h5.mono ?_
  rintro e w5 ⟨rfl, hb5⟩
  have hb05 := below_new hb04 hb5
  have h6 := HEA.out w5 hb05
  clear h5 hC4
  go_wp2_with fail
  refine h6.mono ?_
  rintro e w6 ⟨A6, N6, c6, l6, rfl, HN6, hl6, hO6, hb6⟩
  have hb06 := below_new hb05 hb6
  have h7 := HEB.out w6 hb06
  clear h6
  go_wp2_with fail
  refine h7.mono ?_
  rintro e w7 ⟨A7, N7, c7, l7, rfl, HN7, hl7, hO7, hb7⟩
  have hb07 := below_new hb06 hb7
  have hNN : N7 = N6 := by rw [HN7.out, HN6.out, ← plain_len, ← plain_len, hl6, hl7]
  subst hNN
  have h8 := eall_yes _ _ A6 A7 N7 c6 c7 l6 l7 w7 HN6.out.symm (alike_plain (hl6.trans hl7.symm)) (hO6.new hb7).erds hO7.erds (by rw [HN6.out, ← plain_len, hl6]; unfold maxLen; omega) (hold_short HOK.out (fun x hx => by rw [hl6] at hx; exact hx))
  clear h7 hO6 hO7
  go_wp2_with fail
  refine h8.mono ?_
  rintro e w8 ⟨rfl, hb8⟩
  clear h8
  go_wp2
  go_ret
  exact ⟨rfl, below_new hb07 hb8⟩
end Go.Proofs.Ytedcgfcmhaeldaa
