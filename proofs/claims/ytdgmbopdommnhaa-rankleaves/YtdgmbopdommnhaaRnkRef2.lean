/- Layer 12, the document's own: Owner, Ints, Share. -/
import Derived.Test.YtdgmbopdommnhaaRnkRef
namespace Go.Proofs.Ytdgmbopdommnhaa
set_option linter.unusedVariables false
set_option linter.unusedSimpArgs false
open Go.ChangeShapes Go.WideShapes Go.ChangeAt Go.RowKit

theorem R.own_nil {ns : List Int} {k : Int} {s : Nat} (h : R.all ns k s = []) : R.own ns k s = 0 ∧ R.oer ns k s = 8 := by
  unfold R.own R.oer
  rw [h]
  exact ⟨rfl, rfl⟩
theorem R.own_cons {ns : List Int} {k : Int} {s a : Nat} {r : List Nat} (h : R.all ns k s = a :: r) : R.own ns k s = (a : Int) ∧ R.oer ns k s = 0 := by
  unfold R.own R.oer
  rw [h]
  exact ⟨rfl, rfl⟩
set_option maxRecDepth 100000 in
set_option maxHeartbeats 4000000 in
theorem rowner_any (S : Nat → Prop) (A : Option Addr) (n c : Nat) (ns : List Int) (k : Int) (s : Nat) (w : World) (hs : s < 18446744073709551616) (hn : ns.length = n) (hr : Rds w S A (i64s ns)) (hl : n ≤ 900000) :
    Calls Try.prog 9 #[.slice A n c, .int .i64 k, .int .u64 (s : Int)] w fun e w' => e = .returned (.tuple #[.int .i64 (R.own ns k s), .int .i64 (R.oer ns k s)]) ∧ Below w.heap.size w w' := by
  have HO := Lib.hid (rorder_any S A n c ns k s w hs hn hr hl)
  clear hs hn hr
  go_enter Try.func9, Try.ntmps9
  go_wp2_with fail
  refine HO.out.mono ?_
  rintro e w1 ⟨A1, N1, c1, rfl, hN1, hR1, hb1⟩
  cases ha : R.all ns k s with
  | nil =>
    have HV := Lib.hid (R.own_nil ha)
    rw [ha] at hN1
    have : N1 = 0 := hN1
    subst this
    clear ha hN1 HO
    go_wp2
    go_ret2
    rw [HV.out.1, HV.out.2]
    exact ⟨rfl, hb1⟩
  | cons a r =>
    have HV := Lib.hid (R.own_cons ha)
    rw [ha] at hN1 hR1
    have hN0 : ((N1 : Int) == 0) = false := by simp at hN1 ⊢; omega
    have hN2 : (0 : Int) < (N1 : Int) := by simp at hN1; omega
    have hN3 : ¬ (N1 : Int) = 0 := by omega
    obtain ⟨ad, rfl, hc⟩ := zi_at hR1 (i := 0) (by simp)
    simp only [List.getElem_cons_zero] at hc
    have ead : ad.add 0 = ad := rfl
    rw [ead] at hc
    clear ha hN1 HO hR1 ead
    go_wp2
    go_ret2
    rw [HV.out.1, HV.out.2]
    exact ⟨rfl, hb1⟩

set_option maxRecDepth 100000 in
set_option maxHeartbeats 4000000 in
theorem ints_any (S T : Nat → Prop) (A B : Option Addr) (n c m d : Nat) (l l' : List Int) (w : World) (hn : l.length = n) (hr : Rds w S A (i64s l)) (hm : l'.length = m) (hr' : Rds w T B (i64s l')) (hl : n ≤ 900000) :
    Calls Try.prog 10 #[.slice A n c, .slice B m d] w fun e w' => e = .returned (.bool (decide (l = l'))) ∧ Drew w w' := by
  have HN := Lib.hid hn
  have HM := Lib.hid hm
  clear hn hm
  by_cases hnm : n = m
  · subst hnm
    have HD0 : Hid (decide (l = l') = decide (l.drop 0 = l'.drop 0)) := Lib.hid rfl
    go_enter Try.func10, Try.ntmps10
    go_wp2_with fail
    go_loopw [13] (fun iv wr => ∃ i : Nat, iv = .int .i64 i ∧ i ≤ n ∧ Hid (decide (l = l') = decide (l.drop i = l'.drop i)) ∧ Drew w wr) (fun iv _ => n - (intOf iv).toNat)
    case atStart => exact ⟨0, rfl, by omega, HD0, Drew.refl _⟩
    case round =>
      obtain ⟨i, rfl, hi, HD, hdr⟩ := hrel
      by_cases hlt : i < n
      · have hiN : (i : Int) < (n : Int) := by omega
        have h1 : i < l.length := by rw [HN.out]; exact hlt
        have h2 : i < l'.length := by rw [HM.out]; exact hlt
        obtain ⟨ad, rfl, _, hc⟩ := (hdr.rds hr) i (.int .i64 l[i]) (by simp [i64s, List.getElem?_eq_getElem h1])
        obtain ⟨bd, rfl, _, hc'⟩ := (hdr.rds hr') i (.int .i64 l'[i]) (by simp [i64s, List.getElem?_eq_getElem h2])
        have HS : Hid (decide (l.drop i = l'.drop i) = (decide (l[i] = l'[i]) && decide (l.drop (i + 1) = l'.drop (i + 1)))) := Lib.hid (by
          rw [Bool.eq_iff_iff]
          simp only [decide_eq_true_eq, Bool.and_eq_true]
          rw [List.drop_eq_getElem_cons h1, List.drop_eq_getElem_cons h2, List.cons.injEq])
        generalize l[i] = x at *
        generalize l'[i] = y at *
        by_cases hxy : x = y
        · subst hxy
          have HD2 : Hid (decide (l = l') = decide (l.drop (i + 1) = l'.drop (i + 1))) := Lib.hid (by rw [HD.out, HS.out]; simp)
          have hne : (x != x) = false := by simp
          clear HD HS
          go_wp2_with fail
          go_quiet (fail)
          obtain ⟨W, hd, hW⟩ : ∃ W, Drew w W ∧ wr.drewN nq = W := ⟨_, hdr.more nq, rfl⟩
          rw [hW]
          clear hc hc'
          go_wp2
          go_roundw
          case rel => exact ⟨i + 1, by go_num, by omega, HD2, hd⟩
          case measure => simp [intOf]; omega
        · have HD2 : Hid (decide (l = l') = false) := Lib.hid (by rw [HD.out, HS.out]; simp [hxy])
          have hne : (x != y) = true := by simpa using hxy
          clear HD HS hxy
          go_wp2_with fail
          go_quiet (fail)
          obtain ⟨W, hd, hW⟩ : ∃ W, Drew w W ∧ wr.drewN nq = W := ⟨_, hdr.more nq, rfl⟩
          rw [hW]
          clear hc hc'
          go_wp2
          go_ret
          rw [HD2.out]
          exact ⟨rfl, hd⟩
      · have hiN : ¬ (i : Int) < (n : Int) := by omega
        have HD2 : Hid (decide (l = l') = true) := Lib.hid (by rw [HD.out, List.drop_of_length_le (by rw [HN.out]; omega), List.drop_of_length_le (by rw [HM.out]; omega)]; simp)
        go_wp2
        go_ret
        rw [HD2.out]
        exact ⟨rfl, hdr⟩
  · have HD : Hid (decide (l = l') = false) := Lib.hid (by
      have : l ≠ l' := fun e => hnm (by rw [← HN.out, ← HM.out, e])
      simpa using this)
    have hne : ((n : Int) != (m : Int)) = true := by simp; omega
    go_enter Try.func10, Try.ntmps10
    go_wp2
    go_ret
    rw [HD.out]
    exact ⟨rfl, Drew.refl _⟩
end Go.Proofs.Ytdgmbopdommnhaa
