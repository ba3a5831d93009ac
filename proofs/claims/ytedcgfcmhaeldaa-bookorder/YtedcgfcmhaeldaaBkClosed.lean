/- Layer 8, the document's own: Closed. -/
import Derived.Test.YtedcgfcmhaeldaaEvMem
import Derived.Test.YtedcgfcmhaeldaaBkMath3
namespace Go.Proofs.Ytedcgfcmhaeldaa
set_option linter.unusedVariables false
set_option linter.unusedSimpArgs false
open Go.ChangeShapes Go.WideShapes Go.ChangeAt Go.RowKit

theorem dot_beq2 (d : D.Dot) (a b : Int) : (d == (a, b)) = (d.1 == a && d.2 == b) := rfl
theorem contains_app (l : List D.Dot) (x y : D.Dot) : (l ++ [x]).contains y = (l.contains y || (x == y)) := by
  rw [Bool.eq_iff_iff]
  simp [List.contains_iff_mem]
  constructor
  · rintro (h | h)
    · exact .inl h
    · exact .inr h.symm
  · rintro (h | h)
    · exact .inl h
    · exact .inr h.symm
def dotV (e : EvV) : D.Dot := (e.F 0, e.F 1)
/-- What is asked of two of them. -/
def okP (l : List EvV) (i k : Nat) : Prop := ∀ (hi : i < l.length) (hk : k < l.length), (i ≠ k → dotV l[i] ≠ dotV l[k]) ∧ (dotV l[k] ∈ l[i].M → ∀ d ∈ l[k].M, d ∈ l[i].M)
def ClosedPost (l : List EvV) (w : World) (e : Ending) (w' : World) : Prop := ∃ b : Bool, e = .returned (.bool b) ∧ Below w.heap.size w w' ∧ (b = true → ∀ i k, okP l i k)

set_option maxRecDepth 100000 in
set_option maxHeartbeats 8000000 in
theorem rclosed_any (S : Nat → Prop) (A : Option Addr) (n c : Nat) (l : List EvV) (w : World) (hn : l.length = n) (hr : ERds w S A l) (hl : n ≤ 1000000) (hm : ∀ e ∈ l, e.M.length ≤ 1000000) :
    Calls Try.prog 32 #[.slice A n c] w (ClosedPost l w) := by
  have HN := Lib.hid hn
  have HM := Lib.hid hm
  clear hn hm
  go_enter Try.func32, Try.ntmps32
  go_wp2_with fail
  go_loopw [17] (fun iv wr => ∃ i : Nat, iv = .int .i64 i ∧ i ≤ n ∧ Hid (∀ j, j < i → ∀ k, okP l j k) ∧ Below w.heap.size w wr) (fun iv _ => n - (intOf iv).toNat)
  case atStart => exact ⟨0, rfl, by omega, Lib.hid (fun j hj => by omega), Below.refl _ _⟩
  case round =>
    obtain ⟨i, rfl, hi, HO, hb⟩ := hrel
    by_cases hlt : i < n
    · have hlt' : i < l.length := by rw [HN.out]; exact hlt
      obtain ⟨ad, rfl, _, hrx, c0, c1, c2, c3, c4, c5, c6, c7, c8, c9, c10, c11, c12, c13⟩ := (hr.new hb).cells hlt'
      obtain ⟨x, hx⟩ : ∃ x, x = l[i] := ⟨_, rfl⟩
      rw [← hx] at hrx c0 c1 c2 c3 c4 c5 c6 c7 c8 c9 c10 c11 c12 c13
      have hxl : x.M.length ≤ 1000000 := by rw [hx]; exact HM.out _ (List.getElem_mem hlt')
      have HX := Lib.hid hx
      obtain ⟨F, M, Ax, cx⟩ := x
      simp only at hrx c0 c1 c2 c3 c4 c5 c6 c7 c8 c9 c10 c11 c12 c13 hxl
      obtain ⟨q, hq⟩ : ∃ q, M.length = q := ⟨_, rfl⟩
      rw [hq] at c13 hxl
      have HQ := Lib.hid hq
      obtain ⟨w1, hw1⟩ : ∃ W, wr.alloc (.cells (ecs F Ax q cx) 43) = W := ⟨_, rfl⟩
      obtain ⟨ge, hge⟩ : ∃ g, g = wr.heap.size := ⟨_, rfl⟩
      have hb1 : Below wr.heap.size wr w1 := by rw [← hw1]; exact b_alloc _ _
      have hE1 : Blo w1 ge 43 (ecs F Ax q cx) := by rw [← hw1, hge]; exact Blo.made _ _ _
      have hrx1 := hrx.new hb1
      have hb01 := below_new hb hb1
      have HW1 := Lib.hid hw1
      have HGE := Lib.hid hge
      clear hx hq hw1 hge hrx
      go_wp2_with fail
      rw [HW1.out, ← HGE.out]
      clear c0 c1 c2 c3 c4 c5 c6 c7 c8 c9 c10 c11 c12 c13
      go_wp2_with fail
      go_loopw [24] (fun kv wr => ∃ k : Nat, kv = .int .i64 k ∧ k ≤ n ∧ Hid (∀ j, j < k → okP l i j) ∧ Below w1.heap.size w1 wr) (fun kv _ => n - (intOf kv).toNat)
      case atStart => exact ⟨0, rfl, by omega, Lib.hid (fun j hj => by omega), Below.refl _ _⟩
      case round =>
        obtain ⟨k, rfl, hk, HI, hbk⟩ := hrel
        by_cases hkt : k < n
        · have hkt' : k < l.length := by rw [HN.out]; exact hkt
          obtain ⟨_, hA, _, hry, c0, c1, c2, c3, c4, c5, c6, c7, c8, c9, c10, c11, c12, c13⟩ := ((hr.new hb01).new hbk).cells hkt'
          injection hA with hA
          subst hA
          obtain ⟨y, hy⟩ : ∃ y, y = l[k] := ⟨_, rfl⟩
          rw [← hy] at hry c0 c1 c2 c3 c4 c5 c6 c7 c8 c9 c10 c11 c12 c13
          have hyl : y.M.length ≤ 1000000 := by rw [hy]; exact HM.out _ (List.getElem_mem hkt')
          have HY := Lib.hid hy
          obtain ⟨G, M', Ay, cy⟩ := y
          simp only at hry c0 c1 c2 c3 c4 c5 c6 c7 c8 c9 c10 c11 c12 c13 hyl
          obtain ⟨q', hq'⟩ : ∃ q, M'.length = q := ⟨_, rfl⟩
          rw [hq'] at c13 hyl
          have HQ' := Lib.hid hq'
          have HOK : Hid (((i ≠ k → (F 0, F 1) ≠ (G 0, G 1)) ∧ ((G 0, G 1) ∈ M → ∀ d ∈ M', d ∈ M)) → okP l i k) := Lib.hid (fun h h1 h2 => by rw [← HX.out, ← HY.out]; exact h)
          obtain ⟨w2, hw2⟩ : ∃ W, wr.alloc (.cells (ecs G Ay q' cy) 43) = W := ⟨_, rfl⟩
          obtain ⟨gf, hgf⟩ : ∃ g, g = wr.heap.size := ⟨_, rfl⟩
          have hb2 : Below wr.heap.size wr w2 := by rw [← hw2]; exact b_alloc _ _
          have hF2 : Blo w2 gf 43 (ecs G Ay q' cy) := by rw [← hw2, hgf]; exact Blo.made _ _ _
          have hE2 := (hE1.new hbk).new hb2
          have hrx2 := (hrx1.new hbk).new hb2
          have hry2 := hry.new hb2
          have hb12 := below_new hbk hb2
          have HW2 := Lib.hid hw2
          have HGF := Lib.hid hgf
          have q2 := Try.guardDot
          obtain ⟨x0, x1, x2, x3, x4, x5, x6, x7, x8, x9, x10, x11, x12, x13⟩ := set14 hE2
          rw [← HW2.out] at x0 x1 x2 x3 x4 x5 x6 x7 x8 x9 x10 x11 x12 x13
          clear hy hq' hw2 hgf hry
          by_cases hik : i = k
          · have hik' : ((i : Int) != (k : Int)) = false := by simp; omega
            have HC : Hid (i ≠ k → (F 0, F 1) ≠ (G 0, G 1)) := Lib.hid (fun h => absurd hik h)
            clear hik
            go_wp2_with fail
            rw [HW2.out, ← HGF.out]
            clear x0 x1 x2 x3 x4 x5 x6 x7 x8 x9 x10 x11 x12 x13 c0 c1 c2 c3 c4 c5 c6 c7 c8 c9 c10 c11 c12 c13 hik'
            go_loopw [7, 42] (fun rv jv wr => ∃ (j : Nat) (b : Bool), jv = .int .i64 j ∧ j ≤ q ∧ rv = .bool b ∧ Hid (b = (M.take j).contains (G 0, G 1)) ∧ Below w2.heap.size w2 wr) (fun _ jv _ => q - (intOf jv).toNat)
            case atStart => exact ⟨0, false, rfl, by omega, rfl, Lib.hid (by simp), Below.refl _ _⟩
            case round =>
              obtain ⟨j, b, rfl, hj, rfl, HB, hbj⟩ := hrel
              by_cases hjt : j < q
              · have hjM : j < M.length := by rw [HQ.out]; exact hjt
                obtain ⟨xd, rfl, _, y0, y1⟩ := (hrx2.new hbj).dot hjM
                obtain ⟨dd, hdd⟩ : ∃ d, d = M[j] := ⟨_, rfl⟩
                rw [← hdd] at y0 y1
                have HT : Hid ((M.take (j + 1)).contains (G 0, G 1) = ((M.take j).contains (G 0, G 1) || (dd.1 == G 0 && dd.2 == G 1))) := Lib.hid (by
                  rw [List.take_succ_eq_append_getElem hjM, ← hdd, contains_app, dot_beq2])
                obtain ⟨d1, d2⟩ := dd
                simp only at y0 y1 HT
                clear hdd
                have f0 : wr.cell? ⟨gf, 0, none⟩ = some (.int .i64 (G 0)) := by simpa using (hF2.new hbj).cell 0
                have f1 : wr.cell? ⟨gf, 1, none⟩ = some (.int .i64 (G 1)) := by simpa using (hF2.new hbj).cell 1
                have fl := (hF2.new hbj).lt
                have q1 : ∀ W, (binOp .eql 39 (.agg #[.int .i64 d1, .int .i64 d2]) (.agg #[.int .i64 (G 0), .int .i64 (G 1)])).run Try.prog W = .ok (.bool (d1 == G 0 && d2 == G 1)) W := fun W => by rw [eql_dot]
                have hbj2 := below_new hbj (b_alloc wr (.cells #[.int .i64 d1, .int .i64 d2] 39))
                have g0 : (wr.alloc (.cells #[.int .i64 d1, .int .i64 d2] 39)).cell? ⟨gf, 0, none⟩ = some (.int .i64 (G 0)) := by simpa using ((hF2.new hbj).alloc _).cell 0
                have g1 : (wr.alloc (.cells #[.int .i64 d1, .int .i64 d2] 39)).cell? ⟨gf, 1, none⟩ = some (.int .i64 (G 1)) := by simpa using ((hF2.new hbj).alloc _).cell 1
                cases b with
                | true =>
                  have HB' : Hid (true = (M.take (j + 1)).contains (G 0, G 1)) := Lib.hid (by rw [HT.out, ← HB.out]; rfl)
                  go_wp2
                  go_roundw
                  case rel => exact ⟨j + 1, true, by go_num, by omega, rfl, HB', hbj2⟩
                  case measure => simp [intOf]; omega
                | false =>
                  have HB' : Hid ((d1 == G 0 && d2 == G 1) = (M.take (j + 1)).contains (G 0, G 1)) := Lib.hid (by rw [HT.out, ← HB.out]; rfl)
                  go_wp2
                  go_roundw
                  case rel => exact ⟨j + 1, _, by go_num, by omega, rfl, HB', hbj2⟩
                  case measure => simp [intOf]; omega
              · have HB2 : Hid (b = M.contains (G 0, G 1)) := Lib.hid (by
                  have h1 := HB.out
                  rwa [List.take_of_length_le (by rw [HQ.out]; omega)] at h1)
                have hb1j := below_new hb12 hbj
                cases b with
                | false =>
                  have HI2 : Hid (∀ j, j < k + 1 → okP l i j) := Lib.hid (fun j' hj' => by
                    by_cases h : j' < k
                    · exact HI.out j' h
                    · obtain rfl : j' = k := by omega
                      exact HOK.out ⟨HC.out, fun hm => by rw [← List.contains_iff_mem, ← HB2.out] at hm; cases hm⟩)
                  go_wp2
                  go_roundw
                  case rel => exact ⟨k + 1, by go_num, by omega, HI2, hb1j⟩
                  case measure => simp [intOf]; omega
                | true =>
                  have f13 : wr.cell? ⟨gf, 13, none⟩ = some (.slice Ay q' cy) := by simpa using (hF2.new hbj).cell 13
                  go_wp2_with fail
                  clear f13
                  go_loopw [59] (fun pv wr => ∃ p : Nat, pv = .int .i64 p ∧ p ≤ q' ∧ Hid (∀ d ∈ M'.take p, d ∈ M) ∧ Below w2.heap.size w2 wr) (fun pv _ => q' - (intOf pv).toNat)
                  case atStart => exact ⟨0, rfl, by omega, Lib.hid (fun d hd => by simp at hd), hbj⟩
                  case round =>
                    obtain ⟨p, rfl, hp, HP, hbp⟩ := hrel
                    by_cases hpt : p < q'
                    · have hpM : p < M'.length := by rw [HQ'.out]; exact hpt
                      obtain ⟨yd, rfl, _, y0, y1⟩ := (hry2.new hbp).dot hpM
                      obtain ⟨dd, hdd⟩ : ∃ d, d = M'[p] := ⟨_, rfl⟩
                      rw [← hdd] at y0 y1
                      have HT : Hid (dd ∈ M → ∀ d ∈ M'.take (p + 1), d ∈ M) := Lib.hid (fun hm d hd => by
                        rw [List.take_succ_eq_append_getElem hpM, ← hdd] at hd
                        rcases List.mem_append.1 hd with h | h
                        · exact HP.out d h
                        · simp at h; subst h; exact hm)
                      obtain ⟨d1, d2⟩ := dd
                      simp only at y0 y1
                      clear hdd
                      obtain ⟨w5, hw5⟩ : ∃ W, wr.alloc (.cells #[.int .i64 d1, .int .i64 d2] 39) = W := ⟨_, rfl⟩
                      obtain ⟨gd, hgd⟩ : ∃ g, g = wr.heap.size := ⟨_, rfl⟩
                      have hb5 : Below wr.heap.size wr w5 := by rw [← hw5]; exact b_alloc _ _
                      have hD5 : Blo w5 gd 39 #[.int .i64 d1, .int .i64 d2] := by rw [← hw5, hgd]; exact Blo.made _ _ _
                      have hb25 := below_new hbp hb5
                      have hE5 := hE2.new hb25
                      have e13 : w5.cell? ⟨ge, 13, none⟩ = some (.slice Ax q cx) := by simpa using hE5.cell 13
                      have HW5 := Lib.hid hw5
                      have HGD := Lib.hid hgd
                      rw [← HW5.out] at e13
                      clear hw5 hgd
                      go_wp2_with fail
                      rw [HW5.out, ← HGD.out]
                      clear e13 y0 y1
                      go_loopw [12, 66] (fun hv jv wr => ∃ (a : Nat) (b : Bool), jv = .int .i64 a ∧ a ≤ q ∧ hv = .bool b ∧ Hid (b = (M.take a).contains (d1, d2)) ∧ Below w5.heap.size w5 wr) (fun _ jv _ => q - (intOf jv).toNat)
                      case atStart => exact ⟨0, false, rfl, by omega, rfl, Lib.hid (by simp), Below.refl _ _⟩
                      case round =>
                        obtain ⟨a, b, rfl, ha, rfl, HA, hba⟩ := hrel
                        by_cases hat : a < q
                        · have haM : a < M.length := by rw [HQ.out]; exact hat
                          obtain ⟨zd, rfl, _, y0, y1⟩ := ((hrx2.new hb25).new hba).dot haM
                          obtain ⟨xx, hxx⟩ : ∃ d, d = M[a] := ⟨_, rfl⟩
                          rw [← hxx] at y0 y1
                          have HTA : Hid ((M.take (a + 1)).contains (d1, d2) = ((M.take a).contains (d1, d2) || (xx.1 == d1 && xx.2 == d2))) := Lib.hid (by
                            rw [List.take_succ_eq_append_getElem haM, ← hxx, contains_app, dot_beq2])
                          obtain ⟨a1, a2⟩ := xx
                          simp only at y0 y1 HTA
                          clear hxx
                          have hDr := hD5.new hba
                          have q1 : ∀ W, (binOp .eql 39 (.agg #[.int .i64 a1, .int .i64 a2]) (.agg #[.int .i64 d1, .int .i64 d2])).run Try.prog W = .ok (.bool (a1 == d1 && a2 == d2)) W := fun W => by rw [eql_dot]
                          have hba2 := below_new hba (b_alloc wr (.cells #[.int .i64 a1, .int .i64 a2] 39))
                          have g0 : (wr.alloc (.cells #[.int .i64 a1, .int .i64 a2] 39)).cell? ⟨gd, 0, none⟩ = some (.int .i64 d1) := by simpa using (hDr.alloc _).cell 0
                          have g1 : (wr.alloc (.cells #[.int .i64 a1, .int .i64 a2] 39)).cell? ⟨gd, 1, none⟩ = some (.int .i64 d2) := by simpa using (hDr.alloc _).cell 1
                          cases b with
                          | true =>
                            have HB' : Hid (true = (M.take (a + 1)).contains (d1, d2)) := Lib.hid (by rw [HTA.out, ← HA.out]; rfl)
                            go_wp2
                            go_roundw
                            case rel => exact ⟨a + 1, true, by go_num, by omega, rfl, HB', hba2⟩
                            case measure => simp [intOf]; omega
                          | false =>
                            have HB' : Hid ((a1 == d1 && a2 == d2) = (M.take (a + 1)).contains (d1, d2)) := Lib.hid (by rw [HTA.out, ← HA.out]; rfl)
                            go_wp2
                            go_roundw
                            case rel => exact ⟨a + 1, _, by go_num, by omega, rfl, HB', hba2⟩
                            case measure => simp [intOf]; omega
                        · have HA2 : Hid (b = M.contains (d1, d2)) := Lib.hid (by
                            have h1 := HA.out
                            rwa [List.take_of_length_le (by rw [HQ.out]; omega)] at h1)
                          have hb2a := below_new hb25 hba
                          cases b with
                          | true =>
                            have HP2 : Hid (∀ d ∈ M'.take (p + 1), d ∈ M) := Lib.hid (HT.out (List.contains_iff_mem.1 HA2.out.symm))
                            go_wp2
                            go_roundw
                            case rel => exact ⟨p + 1, by go_num, by omega, HP2, hb2a⟩
                            case measure => simp [intOf]; omega
                          | false =>
                            have hb0a := below_new (below_new hb01 hb12) hb2a
                            go_wp2
                            go_ret
                            exact ⟨false, rfl, hb0a, fun h => by cases h⟩
                    · have HAll : Hid (∀ d ∈ M', d ∈ M) := Lib.hid (by
                        have h1 := HP.out
                        rwa [List.take_of_length_le (by rw [HQ'.out]; omega)] at h1)
                      have HI2 : Hid (∀ j, j < k + 1 → okP l i j) := Lib.hid (fun j' hj' => by
                        by_cases h : j' < k
                        · exact HI.out j' h
                        · obtain rfl : j' = k := by omega
                          exact HOK.out ⟨HC.out, fun _ => HAll.out⟩)
                      have hb1p := below_new hb12 hbp
                      go_wp2
                      go_roundw
                      case rel => exact ⟨k + 1, by go_num, by omega, HI2, hb1p⟩
                      case measure => simp [intOf]; omega
          · have hik' : ((i : Int) != (k : Int)) = true := by simp; omega
            by_cases hsd : F 0 = G 0 ∧ F 1 = G 1
            · have q1 : ∀ W, (binOp .eql 39 (.agg #[.int .i64 (F 0), .int .i64 (F 1)]) (.agg #[.int .i64 (G 0), .int .i64 (G 1)])).run Try.prog W = .ok (.bool true) W := fun W => by rw [eql_dot, hsd.1, hsd.2]; simp
              have hb02 := below_new hb01 hb12
              rw [← HW2.out] at hb02
              clear hsd
              go_wp2
              go_ret
              exact ⟨false, rfl, hb02, fun h => by cases h⟩
            · have hsb : (F 0 == G 0 && F 1 == G 1) = false := by
                cases hh : (F 0 == G 0 && F 1 == G 1) with
                | false => rfl
                | true => simp at hh; exact absurd hh hsd
              have q1 : ∀ W, (binOp .eql 39 (.agg #[.int .i64 (F 0), .int .i64 (F 1)]) (.agg #[.int .i64 (G 0), .int .i64 (G 1)])).run Try.prog W = .ok (.bool false) W := fun W => by rw [eql_dot, hsb]
              have HC : Hid (i ≠ k → (F 0, F 1) ≠ (G 0, G 1)) := Lib.hid (fun _ h => hsd (by simpa using h))
              clear hsd hsb
              go_wp2_with fail
              rw [HW2.out, ← HGF.out]
              clear x0 x1 x2 x3 x4 x5 x6 x7 x8 x9 x10 x11 x12 x13 c0 c1 c2 c3 c4 c5 c6 c7 c8 c9 c10 c11 c12 c13 hik'
              go_loopw [7, 42] (fun rv jv wr => ∃ (j : Nat) (b : Bool), jv = .int .i64 j ∧ j ≤ q ∧ rv = .bool b ∧ Hid (b = (M.take j).contains (G 0, G 1)) ∧ Below w2.heap.size w2 wr) (fun _ jv _ => q - (intOf jv).toNat)
              case atStart => exact ⟨0, false, rfl, by omega, rfl, Lib.hid (by simp), Below.refl _ _⟩
              case round =>
                obtain ⟨j, b, rfl, hj, rfl, HB, hbj⟩ := hrel
                by_cases hjt : j < q
                · have hjM : j < M.length := by rw [HQ.out]; exact hjt
                  obtain ⟨xd, rfl, _, y0, y1⟩ := (hrx2.new hbj).dot hjM
                  obtain ⟨dd, hdd⟩ : ∃ d, d = M[j] := ⟨_, rfl⟩
                  rw [← hdd] at y0 y1
                  have HT : Hid ((M.take (j + 1)).contains (G 0, G 1) = ((M.take j).contains (G 0, G 1) || (dd.1 == G 0 && dd.2 == G 1))) := Lib.hid (by
                    rw [List.take_succ_eq_append_getElem hjM, ← hdd, contains_app, dot_beq2])
                  obtain ⟨d1, d2⟩ := dd
                  simp only at y0 y1 HT
                  clear hdd
                  have f0 : wr.cell? ⟨gf, 0, none⟩ = some (.int .i64 (G 0)) := by simpa using (hF2.new hbj).cell 0
                  have f1 : wr.cell? ⟨gf, 1, none⟩ = some (.int .i64 (G 1)) := by simpa using (hF2.new hbj).cell 1
                  have fl := (hF2.new hbj).lt
                  have q1 : ∀ W, (binOp .eql 39 (.agg #[.int .i64 d1, .int .i64 d2]) (.agg #[.int .i64 (G 0), .int .i64 (G 1)])).run Try.prog W = .ok (.bool (d1 == G 0 && d2 == G 1)) W := fun W => by rw [eql_dot]
                  have hbj2 := below_new hbj (b_alloc wr (.cells #[.int .i64 d1, .int .i64 d2] 39))
                  have g0 : (wr.alloc (.cells #[.int .i64 d1, .int .i64 d2] 39)).cell? ⟨gf, 0, none⟩ = some (.int .i64 (G 0)) := by simpa using ((hF2.new hbj).alloc _).cell 0
                  have g1 : (wr.alloc (.cells #[.int .i64 d1, .int .i64 d2] 39)).cell? ⟨gf, 1, none⟩ = some (.int .i64 (G 1)) := by simpa using ((hF2.new hbj).alloc _).cell 1
                  cases b with
                  | true =>
                    have HB' : Hid (true = (M.take (j + 1)).contains (G 0, G 1)) := Lib.hid (by rw [HT.out, ← HB.out]; rfl)
                    go_wp2
                    go_roundw
                    case rel => exact ⟨j + 1, true, by go_num, by omega, rfl, HB', hbj2⟩
                    case measure => simp [intOf]; omega
                  | false =>
                    have HB' : Hid ((d1 == G 0 && d2 == G 1) = (M.take (j + 1)).contains (G 0, G 1)) := Lib.hid (by rw [HT.out, ← HB.out]; rfl)
                    go_wp2
                    go_roundw
                    case rel => exact ⟨j + 1, _, by go_num, by omega, rfl, HB', hbj2⟩
                    case measure => simp [intOf]; omega
                · have HB2 : Hid (b = M.contains (G 0, G 1)) := Lib.hid (by
                    have h1 := HB.out
                    rwa [List.take_of_length_le (by rw [HQ.out]; omega)] at h1)
                  have hb1j := below_new hb12 hbj
                  cases b with
                  | false =>
                    have HI2 : Hid (∀ j, j < k + 1 → okP l i j) := Lib.hid (fun j' hj' => by
                      by_cases h : j' < k
                      · exact HI.out j' h
                      · obtain rfl : j' = k := by omega
                        exact HOK.out ⟨HC.out, fun hm => by rw [← List.contains_iff_mem, ← HB2.out] at hm; cases hm⟩)
                    go_wp2
                    go_roundw
                    case rel => exact ⟨k + 1, by go_num, by omega, HI2, hb1j⟩
                    case measure => simp [intOf]; omega
                  | true =>
                    have f13 : wr.cell? ⟨gf, 13, none⟩ = some (.slice Ay q' cy) := by simpa using (hF2.new hbj).cell 13
                    go_wp2_with fail
                    clear f13
                    go_loopw [59] (fun pv wr => ∃ p : Nat, pv = .int .i64 p ∧ p ≤ q' ∧ Hid (∀ d ∈ M'.take p, d ∈ M) ∧ Below w2.heap.size w2 wr) (fun pv _ => q' - (intOf pv).toNat)
                    case atStart => exact ⟨0, rfl, by omega, Lib.hid (fun d hd => by simp at hd), hbj⟩
                    case round =>
                      obtain ⟨p, rfl, hp, HP, hbp⟩ := hrel
                      by_cases hpt : p < q'
                      · have hpM : p < M'.length := by rw [HQ'.out]; exact hpt
                        obtain ⟨yd, rfl, _, y0, y1⟩ := (hry2.new hbp).dot hpM
                        obtain ⟨dd, hdd⟩ : ∃ d, d = M'[p] := ⟨_, rfl⟩
                        rw [← hdd] at y0 y1
                        have HT : Hid (dd ∈ M → ∀ d ∈ M'.take (p + 1), d ∈ M) := Lib.hid (fun hm d hd => by
                          rw [List.take_succ_eq_append_getElem hpM, ← hdd] at hd
                          rcases List.mem_append.1 hd with h | h
                          · exact HP.out d h
                          · simp at h; subst h; exact hm)
                        obtain ⟨d1, d2⟩ := dd
                        simp only at y0 y1
                        clear hdd
                        obtain ⟨w5, hw5⟩ : ∃ W, wr.alloc (.cells #[.int .i64 d1, .int .i64 d2] 39) = W := ⟨_, rfl⟩
                        obtain ⟨gd, hgd⟩ : ∃ g, g = wr.heap.size := ⟨_, rfl⟩
                        have hb5 : Below wr.heap.size wr w5 := by rw [← hw5]; exact b_alloc _ _
                        have hD5 : Blo w5 gd 39 #[.int .i64 d1, .int .i64 d2] := by rw [← hw5, hgd]; exact Blo.made _ _ _
                        have hb25 := below_new hbp hb5
                        have hE5 := hE2.new hb25
                        have e13 : w5.cell? ⟨ge, 13, none⟩ = some (.slice Ax q cx) := by simpa using hE5.cell 13
                        have HW5 := Lib.hid hw5
                        have HGD := Lib.hid hgd
                        rw [← HW5.out] at e13
                        clear hw5 hgd
                        go_wp2_with fail
                        rw [HW5.out, ← HGD.out]
                        clear e13 y0 y1
                        go_loopw [12, 66] (fun hv jv wr => ∃ (a : Nat) (b : Bool), jv = .int .i64 a ∧ a ≤ q ∧ hv = .bool b ∧ Hid (b = (M.take a).contains (d1, d2)) ∧ Below w5.heap.size w5 wr) (fun _ jv _ => q - (intOf jv).toNat)
                        case atStart => exact ⟨0, false, rfl, by omega, rfl, Lib.hid (by simp), Below.refl _ _⟩
                        case round =>
                          obtain ⟨a, b, rfl, ha, rfl, HA, hba⟩ := hrel
                          by_cases hat : a < q
                          · have haM : a < M.length := by rw [HQ.out]; exact hat
                            obtain ⟨zd, rfl, _, y0, y1⟩ := ((hrx2.new hb25).new hba).dot haM
                            obtain ⟨xx, hxx⟩ : ∃ d, d = M[a] := ⟨_, rfl⟩
                            rw [← hxx] at y0 y1
                            have HTA : Hid ((M.take (a + 1)).contains (d1, d2) = ((M.take a).contains (d1, d2) || (xx.1 == d1 && xx.2 == d2))) := Lib.hid (by
                              rw [List.take_succ_eq_append_getElem haM, ← hxx, contains_app, dot_beq2])
                            obtain ⟨a1, a2⟩ := xx
                            simp only at y0 y1 HTA
                            clear hxx
                            have hDr := hD5.new hba
                            have q1 : ∀ W, (binOp .eql 39 (.agg #[.int .i64 a1, .int .i64 a2]) (.agg #[.int .i64 d1, .int .i64 d2])).run Try.prog W = .ok (.bool (a1 == d1 && a2 == d2)) W := fun W => by rw [eql_dot]
                            have hba2 := below_new hba (b_alloc wr (.cells #[.int .i64 a1, .int .i64 a2] 39))
                            have g0 : (wr.alloc (.cells #[.int .i64 a1, .int .i64 a2] 39)).cell? ⟨gd, 0, none⟩ = some (.int .i64 d1) := by simpa using (hDr.alloc _).cell 0
                            have g1 : (wr.alloc (.cells #[.int .i64 a1, .int .i64 a2] 39)).cell? ⟨gd, 1, none⟩ = some (.int .i64 d2) := by simpa using (hDr.alloc _).cell 1
                            cases b with
                            | true =>
                              have HB' : Hid (true = (M.take (a + 1)).contains (d1, d2)) := Lib.hid (by rw [HTA.out, ← HA.out]; rfl)
                              go_wp2
                              go_roundw
                              case rel => exact ⟨a + 1, true, by go_num, by omega, rfl, HB', hba2⟩
                              case measure => simp [intOf]; omega
                            | false =>
                              have HB' : Hid ((a1 == d1 && a2 == d2) = (M.take (a + 1)).contains (d1, d2)) := Lib.hid (by rw [HTA.out, ← HA.out]; rfl)
                              go_wp2
                              go_roundw
                              case rel => exact ⟨a + 1, _, by go_num, by omega, rfl, HB', hba2⟩
                              case measure => simp [intOf]; omega
                          · have HA2 : Hid (b = M.contains (d1, d2)) := Lib.hid (by
                              have h1 := HA.out
                              rwa [List.take_of_length_le (by rw [HQ.out]; omega)] at h1)
                            have hb2a := below_new hb25 hba
                            cases b with
                            | true =>
                              have HP2 : Hid (∀ d ∈ M'.take (p + 1), d ∈ M) := Lib.hid (HT.out (List.contains_iff_mem.1 HA2.out.symm))
                              go_wp2
                              go_roundw
                              case rel => exact ⟨p + 1, by go_num, by omega, HP2, hb2a⟩
                              case measure => simp [intOf]; omega
                            | false =>
                              have hb0a := below_new (below_new hb01 hb12) hb2a
                              go_wp2
                              go_ret
                              exact ⟨false, rfl, hb0a, fun h => by cases h⟩
                      · have HAll : Hid (∀ d ∈ M', d ∈ M) := Lib.hid (by
                          have h1 := HP.out
                          rwa [List.take_of_length_le (by rw [HQ'.out]; omega)] at h1)
                        have HI2 : Hid (∀ j, j < k + 1 → okP l i j) := Lib.hid (fun j' hj' => by
                          by_cases h : j' < k
                          · exact HI.out j' h
                          · obtain rfl : j' = k := by omega
                            exact HOK.out ⟨HC.out, fun _ => HAll.out⟩)
                        have hb1p := below_new hb12 hbp
                        go_wp2
                        go_roundw
                        case rel => exact ⟨k + 1, by go_num, by omega, HI2, hb1p⟩
                        case measure => simp [intOf]; omega
        · have HF : Hid (∀ j, j < i + 1 → ∀ k, okP l j k) := Lib.hid (fun j hj k' => by
            by_cases hj' : j < i
            · exact HO.out j hj' k'
            · obtain rfl : j = i := by omega
              by_cases hk' : k' < k
              · exact HI.out k' hk'
              · intro _ h2; rw [HN.out] at h2; omega)
          have hb0k := below_new hb01 hbk
          go_wp2
          go_roundw
          case rel => exact ⟨i + 1, by go_num, by omega, HF, hb0k⟩
          case measure => simp [intOf]; omega
    · have HF : Hid (∀ j k, okP l j k) := Lib.hid (fun j k => by
        by_cases hj : j < i
        · exact HO.out j hj k
        · intro h1 _; rw [HN.out] at h1; omega)
      go_wp2
      go_ret
      exact ⟨true, rfl, hb, fun _ => HF.out⟩
/-- What Closed says, of the events as plain numbers. -/
theorem closed_of {l : List EvV} (h : ∀ i k, okP l i k) (hr : ∀ e ∈ plain l, E.right e.1 e.2 = true) : B.Closed (plain l) := by
  have at_ : ∀ e ∈ plain l, ∃ (i : Nat) (hi : i < l.length), e = (l[i].F, l[i].M) := fun e he => by
    obtain ⟨x, hx, rfl⟩ := List.mem_map.1 he
    obtain ⟨i, hi, rfl⟩ := List.mem_iff_getElem.1 hx
    exact ⟨i, hi, rfl⟩
  refine ⟨hr, fun e he f hf hd => ?_, fun e he f hf hd d hdf => ?_⟩
  · obtain ⟨i, hi, rfl⟩ := at_ e he
    obtain ⟨k, hk, rfl⟩ := at_ f hf
    by_cases hik : i = k
    · subst hik; rfl
    · exact absurd hd ((h i k hi hk).1 hik)
  · obtain ⟨i, hi, rfl⟩ := at_ e he
    obtain ⟨k, hk, rfl⟩ := at_ f hf
    exact (h i k hi hk).2 hd d hdf
end Go.Proofs.Ytedcgfcmhaeldaa
