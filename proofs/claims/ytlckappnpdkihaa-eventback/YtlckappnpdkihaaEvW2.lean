/- Layer 7, the program's writer: through an event's numbers. -/
import Derived.Test.YtlckappnpdkihaaEvW1
namespace Go.Proofs.Ytlckappnpdkihaa
set_option linter.unusedVariables false
set_option linter.unusedSimpArgs false
open Go.ChangeShapes Go.WideShapes Go.ChangeAt Go.RowKit

/-- The writer's number, as a value. -/
abbrev wdo (g : Nat) : Value := .func (.func 59) #[.pointer (some ⟨g, 0, none⟩)] #[]

set_option maxRecDepth 100000 in
set_option maxHeartbeats 2000000 in
theorem wdot_any {B g : Nat} {l : List Int} {p : Addr} {x y : Int} {w : World} (hW : Wtr w B g l) (hp : w.cell? p = some (.int .i64 x)) (hq : w.cell? ⟨p.block, p.off + 1, none⟩ = some (.int .i64 y)) (hF : Far B w p.block) (hl : l.length ≤ 900000)
    (h0 : 0 ≤ x) (h1 : x ≤ 1099511627776) (h2 : 0 ≤ y) (h3 : y ≤ 1099511627776) :
    Calls Try.prog 70 #[.pointer (some p), wdo g] w (WroPost B g (l ++ V.enc x ++ V.enc y) w) := by
  have hx6 := V.enc_len6 h1
  go_enter Try.func70, Try.ntmps70
  go_wp2_with fail
  refine (wnumber_any hW hp (by omega) h0 h1).mono ?_
  rintro e w1 ⟨rfl, hW1, hR1⟩
  have hq1 := Far.cell (p := ⟨p.block, p.off + 1, none⟩) hF hR1 hq
  go_wp2_with fail
  refine (wnumber_any hW1 hq1 (by simp; omega) h2 h3).mono ?_
  rintro e w2 ⟨rfl, hW2, hR2⟩
  go_wp2
  go_end0
  exact ⟨rfl, hW2, hR1.trans hR2⟩

/-- An event's or a policy's numbers, one behind the other. -/
theorem wnum_at {B g ge : Nat} {l : List Int} {w w' : World} {t : TypeId} {cs : Array Value} (hE : Blo w ge t cs) (h1 : t ≠ 65) (h2 : t ≠ 5) (hR : Wro B w w') (hW : Wtr w' B g l) (k : Nat) {x : Int} (hc : cs[k]? = some (.int .i64 x)) (hl : l.length ≤ 1000000) (hx : 0 ≤ x ∧ x ≤ 1099511627776) :
    Calls Try.prog 59 #[.pointer (some ⟨g, 0, none⟩), .pointer (some ⟨ge, k, none⟩)] w' fun e w'' => e = .returned (.tuple #[]) ∧ Wtr w'' B g (l ++ V.enc x) ∧ Wro B w w'' :=
  (wnumber_any hW (((hR.keep _ _ _ hE h1 h2).cell k).trans hc) hl hx.1 hx.2).mono fun e w'' ⟨he, h3, h4⟩ => ⟨he, h3, hR.trans h4⟩
theorem enc_len {x : Int} (hx : 0 ≤ x ∧ x ≤ 1099511627776) : (V.enc x).length ≤ 6 := V.enc_len6 hx.2

set_option maxRecDepth 100000 in
set_option maxHeartbeats 4000000 in
theorem wpol_any {B g ge : Nat} {l : List Int} {F : Nat → Int} {A : Option Addr} {n c : Nat} {w : World} (hW : Wtr w B g l) (hE : Blo w ge 28 (ecs F A n c)) (hl : l.length ≤ 900000) (hF : ∀ j, j < 13 → 6 ≤ j → 0 ≤ F j ∧ F j ≤ 1099511627776) :
    Calls Try.prog 71 #[.pointer (some ⟨ge, 6, none⟩), wdo g] w (WroPost B g (l ++ V.encs [F 6, F 7, F 8, F 9, F 10, F 11, F 12]) w) := by
  have H6 := hF 6 (by omega) (by omega)
  have H7 := hF 7 (by omega) (by omega)
  have H8 := hF 8 (by omega) (by omega)
  have H9 := hF 9 (by omega) (by omega)
  have H10 := hF 10 (by omega) (by omega)
  have H11 := hF 11 (by omega) (by omega)
  have H12 := hF 12 (by omega) (by omega)
  have E6 := enc_len H6
  have E7 := enc_len H7
  have E8 := enc_len H8
  have E9 := enc_len H9
  have E10 := enc_len H10
  have E11 := enc_len H11
  go_enter Try.func71, Try.ntmps71
  go_wp2_with fail
  refine (wnum_at hE (by decide) (by decide) (Wro.refl _ _) hW 6 rfl (by omega) H6).mono ?_
  rintro e w1 ⟨rfl, hW1, hR1⟩
  go_wp2_with fail
  refine (wnum_at hE (by decide) (by decide) hR1 hW1 7 rfl (by simp; omega) H7).mono ?_
  rintro e w2 ⟨rfl, hW2, hR2⟩
  go_wp2_with fail
  refine (wnum_at hE (by decide) (by decide) hR2 hW2 8 rfl (by simp; omega) H8).mono ?_
  rintro e w3 ⟨rfl, hW3, hR3⟩
  go_wp2_with fail
  refine (wnum_at hE (by decide) (by decide) hR3 hW3 9 rfl (by simp; omega) H9).mono ?_
  rintro e w4 ⟨rfl, hW4, hR4⟩
  go_wp2_with fail
  refine (wnum_at hE (by decide) (by decide) hR4 hW4 10 rfl (by simp; omega) H10).mono ?_
  rintro e w5 ⟨rfl, hW5, hR5⟩
  go_wp2_with fail
  refine (wnum_at hE (by decide) (by decide) hR5 hW5 11 rfl (by simp; omega) H11).mono ?_
  rintro e w6 ⟨rfl, hW6, hR6⟩
  go_wp2_with fail
  refine (wnum_at hE (by decide) (by decide) hR6 hW6 12 rfl (by simp; omega) H12).mono ?_
  rintro e w7 ⟨rfl, hW7, hR7⟩
  go_wp2
  go_end0
  refine ⟨rfl, ?_, hR7⟩
  simpa [V.encs] using hW7

theorem encs_numM_snoc (M : List D.Dot) (d : D.Dot) : V.encs (E.numM (M ++ [d])) = V.encs (E.numM M) ++ V.enc d.1 ++ V.enc d.2 := by simp [E.numM, V.encs]

set_option maxRecDepth 100000 in
set_option maxHeartbeats 4000000 in
theorem wrem_any {B g ge : Nat} {l : List Int} {F : Nat → Int} {A : Option Addr} {n c : Nat} {M : List D.Dot} {w : World} (hW : Wtr w B g l) (hE : Blo w ge 28 (ecs F A n c)) (hn : M.length = n) (hr : Rds w (· < B) A (dvs M)) (hl : l.length ≤ 800000)
    (h96 : n ≤ 96) (hM : ∀ d ∈ M, (0 ≤ d.1 ∧ d.1 ≤ 1099511627776) ∧ 0 ≤ d.2 ∧ d.2 ≤ 1099511627776) :
    Calls Try.prog 72 #[.pointer (some ⟨ge, 0, none⟩), wdo g] w (WroPost B g (l ++ V.encs ((M.length : Int) :: E.numM M)) w) := by
  have HN := Lib.hid hn
  have HM := Lib.hid hM
  obtain ⟨w1, hw1⟩ : ∃ W, w.alloc (.cells #[.int .i64 (n : Int)] 3) = W := ⟨_, rfl⟩
  obtain ⟨q, hq⟩ : ∃ q, q = w.heap.size := ⟨_, rfl⟩
  have hb1 : Below w.heap.size w w1 := by rw [← hw1]; exact b_alloc _ _
  have hC : Blo w1 q 3 #[.int .i64 (n : Int)] := by rw [← hw1, hq]; exact Blo.made _ _ _
  have z13 : w.cell? ⟨ge, 13, none⟩ = some (.slice A n c) := by simpa using hE.cell 13
  have hE1 := hE.new hb1
  have hW1 := hW.new hb1
  have hR1 : Wro B w w1 := (Wro.refl B w).new hb1 hW.B
  have HW := Lib.hid hw1
  have HQ := Lib.hid hq
  clear hw1 hq hn hM
  go_enter Try.func72, Try.ntmps72
  go_wp2_with fail
  rw [HW.out, ← HQ.out]
  refine (wnum_at hC (by decide) (by decide) (Wro.refl _ _) hW1 0 rfl (by omega) ⟨by omega, by omega⟩).mono ?_
  rintro e w2 ⟨rfl, hW2, hR12⟩
  have hR2 := hR1.trans hR12
  have hC2 := hR12.keep _ _ _ hC (by decide) (by decide)
  have hE2 := hR2.keep _ _ _ hE (by decide) (by decide)
  have c2 : w2.cell? ⟨q, 0, none⟩ = some (.int .i64 (n : Int)) := by simpa using hC2.cell 0
  have d96 : decide ((n : Int) ≤ 96) = true := by simp; omega
  clear z13
  go_wp2_with fail
  refine (eneed_yes _ _).mono ?_
  rintro e w3 ⟨rfl, rfl⟩
  have z13 : w2.cell? ⟨ge, 13, none⟩ = some (.slice A n c) := by simpa using hE2.cell 13
  have hnn : ¬ (n : Int) < (n : Int) := by omega
  go_wp2_with fail
  go_quiet (fail)
  obtain ⟨w4, hd4, hw4⟩ : ∃ W, Drew w2 W ∧ w2.drewN nq = W := ⟨_, ⟨nq, rfl⟩, rfl⟩
  rw [hw4]
  have hb4 : Below w2.heap.size w2 w4 := hd4.below _
  have hW4 := hW2.new hb4
  have hE4 := hE2.new hb4
  have hR4 := hR2.new hb4 hW2.B
  have hr4 : Rds w4 (· < B) A (dvs M) := hr.below hR4.below (fun b hb _ => hb)
  have z4 : w4.cell? ⟨ge, 13, none⟩ = some (.slice A n c) := by simpa using hE4.cell 13
  obtain ⟨G, hG⟩ : ∃ G, G = l ++ V.enc (n : Int) := ⟨_, rfl⟩
  have hGl : G.length ≤ 800006 := by rw [hG]; have := enc_len (x := (n : Int)) ⟨by omega, by omega⟩; simp; omega
  have HFin : Hid (l ++ V.encs ((M.length : Int) :: E.numM M) = G ++ V.encs (E.numM M)) := Lib.hid (by rw [hG, HN.out]; simp [V.encs])
  rw [← hG] at hW4
  clear hG hw4 hd4 hb4 hW2 hE2 hC2 c2 z13 hR2 hR12 hW1 hE1 hR1 hC hnn
  go_wp2_with fail
  go_loopw [33] (fun iv wr => ∃ i : Nat, iv = .int .i64 i ∧ i ≤ n ∧ Wtr wr B g (G ++ V.encs (E.numM (M.take i))) ∧ Wro B w wr) (fun iv _ => n - (intOf iv).toNat)
  case atStart => exact ⟨0, rfl, by omega, by simpa [E.numM, V.encs] using hW4, hR4⟩
  case round =>
    obtain ⟨i, rfl, hi, hWr, hRr⟩ := hrel
    have hEr := hRr.keep _ _ _ hE (by decide) (by decide)
    by_cases hlt : i < n
    · have hlt' : i < M.length := by rw [HN.out]; exact hlt
      obtain ⟨ad, rfl, hadB, d1, d2⟩ := (hr.below hRr.below (fun b hb _ => hb)).dot hlt'
      have hin := HM.out M[i] (List.getElem_mem hlt')
      have hlen : (V.encs (E.numM (M.take i))).length ≤ 1200 := by
        have h1 := V.encs_len (E.numM (M.take i)) (fun m hm => by
          unfold E.numM at hm
          obtain ⟨d, hd, hm⟩ := List.mem_flatMap.1 hm
          have := HM.out d (List.mem_of_mem_take hd)
          simp at hm
          rcases hm with rfl | rfl <;> omega)
        have h2 : (E.numM (M.take i)).length = 2 * (M.take i).length := by
          generalize M.take i = L
          induction L with
          | nil => rfl
          | cons d L ih => simp [E.numM] at ih ⊢; omega
        have h3 : (M.take i).length ≤ 96 := by simp; omega
        omega
      have zr : wr.cell? ⟨ge, 13, none⟩ = some (.slice (some ad) n c) := by simpa using hEr.cell 13
      have HTK : Hid (V.encs (E.numM (M.take (i + 1))) = V.encs (E.numM (M.take i)) ++ V.enc M[i].1 ++ V.enc M[i].2) := Lib.hid (by rw [List.take_succ_eq_append_getElem hlt', encs_numM_snoc])
      have hcall := wdot_any (p := ad.add (i * 2)) hWr d1 d2 (.inl (by rw [Go.Proofs.Ytlckappnpdkihaa.M.addBlock]; exact hadB)) (by simp; omega) hin.1.1 hin.1.2 hin.2.1 hin.2.2
      clear d1 d2 z4
      go_wp2_with fail
      refine hcall.mono ?_
      rintro e w5 ⟨rfl, hW5, hR5⟩
      clear hcall zr
      go_wp2
      go_roundw
      case rel => exact ⟨i + 1, by go_num, by omega, by rw [HTK.out]; simpa using hW5, hRr.trans hR5⟩
      case measure => simp [intOf]; omega
    · have HF : Hid (M.take i = M) := Lib.hid (List.take_of_length_le (by rw [HN.out]; omega))
      go_wp2
      go_end0
      refine ⟨rfl, ?_, hRr⟩
      rw [HFin.out]
      rw [HF.out] at hWr
      exact hWr
end Go.Proofs.Ytlckappnpdkihaa
