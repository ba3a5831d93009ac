/- Layer 14: the document's example. -/
import Derived.Test.YtfllebfegngdhaaLgLaw
namespace Go.Proofs.Ytfllebfegngdhaa
set_option linter.unusedVariables false
set_option linter.unusedSimpArgs false
open Go.ChangeShapes Go.WideShapes Go.ChangeAt Go.RowKit Go.Deep

theorem la_p : (F.put [99]).take 2 = [1, 1] := by
  unfold F.put F.ahead
  rw [show V.enc (([99] : List Int).length : Int) = [1] from V.enc_small (by simp)]
  rfl
theorem la_l (c : Int) : (F.put [c]).length ≤ 12 := F.put_len_le (b := [c]) (by simp)
theorem la_l2 : 2 < (F.put [99]).length := by rw [F.put_len]; simp
theorem la_b {c : Int} (h : 0 ≤ c ∧ c < 256) : Byt [c] := fun x hx => by simp at hx; subst hx; exact h
theorem la_s : ∀ x ∈ ([[97], [98], [99]] : List (List Int)), x.length ≤ 4096 := by decide
theorem la_s2 : ∀ x ∈ ([[97], [98]] : List (List Int)), x.length ≤ 4096 := by decide
theorem la_len2 : (F.cat [[97], [98]]).length ≤ 24 := by
  have h1 := la_l 97
  have h2 := la_l 98
  rw [F.cat_cons, F.cat_cons, List.length_append, List.length_append]
  simp [F.cat]
  omega
theorem la_1 : Lg.wrt 100 [] [] [97] = (0, F.cat [[97]], []) := by
  have := la_l 97
  rw [Lg.wrt_yes (by simp) (by simp; omega)]
  simp [F.cat]
theorem la_2 : Lg.wrt 100 (F.cat [[97]]) [] [98] = (0, F.cat [[97], [98]], []) := by
  have h1 := la_l 97
  have h2 := la_l 98
  rw [Lg.wrt_yes (by simp) (by simp [F.cat]; omega)]
  simp [F.cat]
theorem la_3 : Lg.wrt 100 (F.cat [[97], [98]]) [] [99] = (0, F.cat [[97], [98], [99]], []) := by
  have h1 := la_len2
  have h2 := la_l 99
  rw [Lg.wrt_yes (by simp) (by omega)]
  simp [F.cat]
theorem la_4 : Dk.apU 100 (F.cat [[97], [98]]) [] [1, 1, 99] = [.b 1, .b 1, .b 99] ∧ Dk.apE 100 (F.cat [[97], [98]]) [] [1, 1, 99] = 0 := by
  have h1 := la_len2
  constructor
  · unfold Dk.apU; rw [Dk.aft_nil, if_neg (by simp; omega)]; rfl
  · unfold Dk.apE; rw [Dk.aft_nil, if_neg (by simp; omega)]
theorem la_5 : Dk.aft (F.cat [[97], [98]]) (([.b 1, .b 1, .b 99] : List Dk.U).take (Dk.cut 2 ([.b 1, .b 1, .b 99] : List Dk.U).length)) = F.cat [[97], [98]] ++ (F.put [99]).take 2 := by
  rw [la_p]
  exact Dk.aft_bytes _ [1, 1]
theorem la_by {bs : List (List Int)} (h : ∀ b ∈ bs, b.length ≤ 4096 ∧ Byt b) : Lg.By (F.cat bs) [] := .new (F.cat_byt h)
theorem la_by2 : Lg.By (F.cat [[97], [98]] ++ (F.put [99]).take 2) [] := by
  rw [la_p]
  refine .new (Byt.app (F.cat_byt ?_) ?_)
  · intro b hb
    simp at hb
    rcases hb with rfl | rfl
    · exact ⟨by simp, la_b (by decide)⟩
    · exact ⟨by simp, la_b (by decide)⟩
  · intro x hx
    simp at hx
    omega
theorem la_by3 : Lg.By (F.cat [[97], [98], [99]]) [] := la_by (by
  intro b hb
  simp at hb
  rcases hb with rfl | rfl | rfl
  · exact ⟨by simp, la_b (by decide)⟩
  · exact ⟨by simp, la_b (by decide)⟩
  · exact ⟨by simp, la_b (by decide)⟩)
set_option maxRecDepth 100000 in
set_option maxHeartbeats 4000000 in
theorem lgalive_any (w : World) : Calls Try.prog 7 #[] w fun e w' => e = .returned (.bool true) ∧ Below w.heap.size w w' := by
  have kc := fun (w : World) (C : Array Value) (n c : Nat) => Lib.run_convert_bytes_const (P := Try.prog) w 32 5 C n c Try.underlying32 Try.underlying5
  go_enter Try.func7, Try.ntmps7
  go_wp2_with fail
  refine (pnew_any 100 w).mono ?_
  intro e w1 h
  unfold PNewPost at h
  rw [if_pos (by decide)] at h
  obtain ⟨g, rfl, h1, h2⟩ := h
  have hD1 : DS w w1 g 100 [] [] := ⟨Dk.Ok.new (by decide) (by decide), fun b => w.heap.size ≤ b ∧ b < w1.heap.size, h1.mono fun b hb hl => ⟨hb, hl⟩, fun b hb => hb, h2⟩
  clear h1 h2
  have C1 := hD1.lwrite (by decide) (b_alloc w1 (.cells #[.int .u8 97] 5 (1, 2))) _ _ 1 1 [97] rfl (lit_at w1 [97] 5 (1, 2)) (la_b (by decide)) (by decide)
  rw [la_1] at C1
  clear hD1
  go_wp2_with fail
  refine C1.mono ?_
  rintro e w2 ⟨rfl, hD2, _⟩
  have C2 := hD2.lwrite (by decide) (b_alloc w2 (.cells #[.int .u8 98] 5 (1, 2))) _ _ 1 1 [98] rfl (lit_at w2 [98] 5 (1, 2)) (la_b (by decide)) (by decide)
  rw [la_2] at C2
  clear C1 hD2
  go_wp2_with fail
  refine C2.mono ?_
  rintro e w3 ⟨rfl, hD3, _⟩
  have C3 := hD3.append (by decide) (b_alloc w3 (.cells #[.int .u8 1, .int .u8 1, .int .u8 99] 5)) _ _ 3 3 [1, 1, 99] rfl (lit_at w3 [1, 1, 99] 5 (0, 0)) (fun b hb _ => .inr (by omega)) (by decide)
  rw [la_4.1, la_4.2] at C3
  clear C2 hD3
  go_wp2_with fail
  refine C3.mono ?_
  rintro e w4 ⟨rfl, hD4, _⟩
  have C4 := hD4.crash (by decide) (Below.refl _ _) 2
  rw [la_5] at C4
  clear C3 hD4
  go_wp2_with fail
  refine C4.mono ?_
  rintro e w5 ⟨rfl, hD5, _⟩
  obtain ⟨q1, q2, q3⟩ := Lg.part_all la_s2 (by simp) la_l2 (by decide)
  have C5 := hD5.lread la_by2 (by decide) (Below.refl _ _)
  rw [Dk.aft_nil, q1, q2] at C5
  have C6 := fun W' (hb : Below w5.heap.size w5 W') => hD5.lmend la_by2 (by decide) hb
  rw [q3] at C6
  have HC6 := Lib.hid C6
  clear C4 hD5 C6 q1 q2 q3
  go_wp2_with fail
  refine C5.mono ?_
  rintro e w6 ⟨A6, N6, c6, vs6, rfl, hN6, _, ⟨hv6, _⟩, hb6⟩
  have h6 : N6 = 2 := by rw [hN6, hv6]; rfl
  subst h6
  have C7 := HC6.out w6 hb6
  clear hN6 hv6 C5 HC6
  go_wp2_with fail
  refine C7.mono ?_
  rintro e w7 ⟨rfl, hD7, _⟩
  have C8 := hD7.lwrite (by decide) (b_alloc w7 (.cells #[.int .u8 99] 5 (1, 2))) _ _ 1 1 [99] rfl (lit_at w7 [99] 5 (1, 2)) (la_b (by decide)) (by decide)
  rw [la_3] at C8
  clear C7 hD7 hb6
  go_wp2_with fail
  refine C8.mono ?_
  rintro e w8 ⟨rfl, hD8, _⟩
  have C9 := hD8.lread la_by3 (by decide) (Below.refl _ _)
  rw [Dk.aft_nil, F.all_of_cat la_s, Lg.torn_cat la_s] at C9
  have HB8 := Lib.hid hD8.bel
  clear C8 hD8
  go_wp2_with fail
  refine C9.mono ?_
  rintro e w9 ⟨A9, N9, c9, vs9, rfl, hN9, _, ⟨hv9, _⟩, hb9⟩
  have h9 : N9 = 3 := by rw [hN9, hv9]; rfl
  subst h9
  have HB9 := Lib.hid (below_new HB8.out hb9)
  clear hN9 hv9 C9 hb9 HB8
  go_wp2_with fail
  refine (plmend_nil _).mono ?_
  rintro e wa ⟨rfl, hba⟩
  have HBa := Lib.hid (below_new HB9.out hba)
  clear hba HB9
  go_wp2
  go_ret
  exact ⟨rfl, HBa.out⟩
end Go.Proofs.Ytfllebfegngdhaa
