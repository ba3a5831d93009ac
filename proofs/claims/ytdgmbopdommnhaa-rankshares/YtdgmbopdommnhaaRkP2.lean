/- Layer 12, the program's: the nodes among numbers, each once, the least first. -/
import Derived.Test.YtdgmbopdommnhaaRkS8
import Derived.Test.YtdgmbopdommnhaaRnkRef
namespace Go.Proofs.Ytdgmbopdommnhaa.Rk
set_option linter.unusedVariables false
set_option linter.unusedSimpArgs false
open Go.ChangeShapes Go.WideShapes Go.ChangeAt Go.RowKit

/-- Eight marks; with one more. -/
abbrev bv8 (f : Nat → Bool) : Array Value := #[.bool (f 0), .bool (f 1), .bool (f 2), .bool (f 3), .bool (f 4), .bool (f 5), .bool (f 6), .bool (f 7)]
theorem bv8_at (f : Nat → Bool) {a : Nat} (ha : a < 8) : (bv8 f)[a]? = some (.bool (f a)) := by
  rcases (show a = 0 ∨ a = 1 ∨ a = 2 ∨ a = 3 ∨ a = 4 ∨ a = 5 ∨ a = 6 ∨ a = 7 by omega) with rfl | rfl | rfl | rfl | rfl | rfl | rfl | rfl <;> rfl
theorem bv8_put (f : Nat → Bool) {a : Nat} (ha : a < 8) : (bv8 f).setIfInBounds a (.bool true) = bv8 (fun j => f j || j == a) := by
  rcases (show a = 0 ∨ a = 1 ∨ a = 2 ∨ a = 3 ∨ a = 4 ∨ a = 5 ∨ a = 6 ∨ a = 7 by omega) with rfl | rfl | rfl | rfl | rfl | rfl | rfl | rfl <;> simp
theorem bv8_congr {f g : Nat → Bool} (h : ∀ j, j < 8 → f j = g j) : bv8 f = bv8 g := by
  simp only [bv8, h 0 (by omega), h 1 (by omega), h 2 (by omega), h 3 (by omega), h 4 (by omega), h 5 (by omega), h 6 (by omega), h 7 (by omega)]
theorem has_more {ns : List Int} {i : Nat} {x : Int} (h : ns.take (i + 1) = ns.take i ++ [x]) (j : Nat) : R.has (ns.take (i + 1)) j = (R.has (ns.take i) j || decide ((j : Int) = x)) := by
  unfold R.has
  rw [h, Bool.eq_iff_iff]
  simp
/-- A call answers these nodes, in a row that it made. -/
def KnPost (l : List Nat) (w : World) (e : Ending) (w' : World) : Prop :=
  ∃ (A : Option Addr) (N c : Nat), e = .returned (.slice A N c) ∧ N = l.length ∧ w'.ownsRow w.heap.size 3 1 (.slice A N c) N (i64s (zi l)) ∧ Below w.heap.size w w'
set_option maxRecDepth 100000 in
set_option maxHeartbeats 4000000 in
theorem known_any (S : Nat → Prop) (A : Option Addr) (n c : Nat) (ns : List Int) (w : World) (hn : ns.length = n) (hr : Rds w S A (i64s ns)) (hl : n ≤ 900000) :
    Calls Try.prog 19 #[.slice A n c] w (KnPost (R.here ns 8) w) := by
  have HN := Lib.hid hn
  clear hn
  obtain ⟨i0, hi0, hz0, hz1, hz2⟩ := info_parts Try.rowIntK
  have HI := Lib.hid hi0
  have HZ := Lib.hid (And.intro hz0 (And.intro hz1 hz2))
  clear hi0 hz0 hz1 hz2
  obtain ⟨w1, hw1⟩ : ∃ W, w.alloc (.cells (bv8 fun _ => false) 55) = W := ⟨_, rfl⟩
  have hb1 : Below w.heap.size w w1 := by rw [← hw1]; exact b_alloc _ _
  have hR1 : Blo w1 w.heap.size 55 (bv8 fun _ => false) := by rw [← hw1]; exact Blo.made _ _ _
  have HW1 := Lib.hid hw1
  clear hw1
  go_enter Try.func19, Try.ntmps19
  go_wp2_with fail
  rw [HW1.out]
  go_loopw [11] (fun iv wr => ∃ i : Nat, iv = .int .i64 i ∧ i ≤ n ∧ Blo wr w.heap.size 55 (bv8 (R.has (ns.take i))) ∧ Below w.heap.size w wr) (fun iv _ => n - (intOf iv).toNat)
  case atStart => exact ⟨0, rfl, by omega, hR1, hb1⟩
  case round =>
    clear hR1 hb1
    obtain ⟨i, rfl, hi, hR, hb⟩ := hrel
    by_cases hlt : i < n
    · have h1 : i < ns.length := by rw [HN.out]; exact hlt
      have hiN : (i : Int) < (n : Int) := by omega
      obtain ⟨ad, rfl, _, hc⟩ := (hr.new hb) i (.int .i64 ns[i]) (by simp [i64s, List.getElem?_eq_getElem h1])
      have HT : Hid (ns.take (i + 1) = ns.take i ++ [ns[i]]) := Lib.hid (List.take_succ_eq_append_getElem h1)
      generalize ns[i] = x at *
      by_cases hx : 0 ≤ x ∧ x < 8
      · obtain ⟨a, rfl⟩ : ∃ a : Nat, x = (a : Int) := ⟨x.toNat, by omega⟩
        have ha : a < 8 := by omega
        have hx1 := hx.1
        have hx2 := hx.2
        have hR2 := hR.put a (.bool true)
        rw [bv8_put _ ha] at hR2
        have e1 : (fun j => R.has (ns.take i) j || j == a) = R.has (ns.take (i + 1)) := by
          funext j
          rw [has_more HT.out j]
          congr 1
          rw [Bool.eq_iff_iff]
          simp
          omega
        rw [e1] at hR2
        have hgx := gb_set (World.grownBy.refl wr (some w.heap.size)) (p := ⟨w.heap.size, a, none⟩) (.inl rfl) (.bool true)
        have y0 : wr.cell? ⟨w.heap.size, a, none⟩ = some (.bool (R.has (ns.take i) a)) := by rw [hR.cell a, bv8_at _ ha]
        have f0 := hR.frozen a
        have hta : ((a : Nat) : Int).toNat = a := Int.toNat_natCast a
        have hbx := hb.grown hgx hb.size (fun k hk => by injection hk with hk; omega)
        clear e1 hx hR hb HT hgx
        go_wp2
        go_roundw
        case rel => exact ⟨i + 1, by go_num, by omega, hR2, hbx⟩
        case measure => simp [intOf]; omega
      · have HM : Hid (bv8 (R.has (ns.take i)) = bv8 (R.has (ns.take (i + 1)))) := Lib.hid (bv8_congr fun j hj => by
          have h1 : ¬ (j : Int) = x := by omega
          rw [has_more HT.out j]
          simp [h1])
        rw [HM.out] at hR
        clear HT
        by_cases h0 : 0 ≤ x
        · have h8 : ¬ x < 8 := by omega
          go_wp2
          go_roundw
          case rel => exact ⟨i + 1, by go_num, by omega, hR, hb⟩
          case measure => simp [intOf]; omega
        · go_wp2
          go_roundw
          case rel => exact ⟨i + 1, by go_num, by omega, hR, hb⟩
          case measure => simp [intOf]; omega
    · obtain rfl : i = n := by omega
      have e1 : ns.take i = ns := List.take_of_length_le (by rw [HN.out]; omega)
      rw [e1] at hR
      clear e1 hr HN
      obtain ⟨f, hf⟩ : ∃ f, f = R.has ns := ⟨_, rfl⟩
      rw [← hf] at hR
      have HF := Lib.hid hf
      clear hf
      have e0 : wr.cell? ⟨w.heap.size, 0, none⟩ = some (.bool (f 0)) := by simpa using hR.cell 0
      have e1 : wr.cell? ⟨w.heap.size, 1, none⟩ = some (.bool (f 1)) := by simpa using hR.cell 1
      have e2 : wr.cell? ⟨w.heap.size, 2, none⟩ = some (.bool (f 2)) := by simpa using hR.cell 2
      have e3 : wr.cell? ⟨w.heap.size, 3, none⟩ = some (.bool (f 3)) := by simpa using hR.cell 3
      have e4 : wr.cell? ⟨w.heap.size, 4, none⟩ = some (.bool (f 4)) := by simpa using hR.cell 4
      have e5 : wr.cell? ⟨w.heap.size, 5, none⟩ = some (.bool (f 5)) := by simpa using hR.cell 5
      have e6 : wr.cell? ⟨w.heap.size, 6, none⟩ = some (.bool (f 6)) := by simpa using hR.cell 6
      have e7 : wr.cell? ⟨w.heap.size, 7, none⟩ = some (.bool (f 7)) := by simpa using hR.cell 7
      have hix : ∀ (j : Nat), j < 8 → ∀ W, (Instr.index 55 (.agg (bv8 f)) (.int .i64 (j : Int))).run Try.prog W = .ok (.bool (f j)) W := fun j hj W => by
        rcases (show j = 0 ∨ j = 1 ∨ j = 2 ∨ j = 3 ∨ j = 4 ∨ j = 5 ∨ j = 6 ∨ j = 7 by omega) with rfl | rfl | rfl | rfl | rfl | rfl | rfl | rfl <;> kernel_rfl
      have HIX := Lib.hid hix
      clear hix
      go_wp2_with fail
      go_loopw [6, 25] (fun ov jv wr => ∃ (j : Nat) (Ao : Option Addr) (No co : Nat) (m : List Nat), jv = .int .i64 j ∧ j ≤ 8 ∧ ov = .slice Ao No co ∧ No ≤ j ∧ Hid (m.length = No ∧ m = R.here ns j) ∧ wr.ownsRow w.heap.size 3 1 (.slice Ao No co) No (i64s (zi m)) ∧ Below w.heap.size w wr) (fun _ jv _ => 8 - (intOf jv).toNat)
      case atStart => exact ⟨0, none, 0, 0, [], rfl, by omega, rfl, by omega, Lib.hid ⟨rfl, rfl⟩, World.ownsRow_nil _ _ _ _, hb⟩
      case round =>
        clear hb hR e0 e1 e2 e3 e4 e5 e6 e7
        obtain ⟨j, Ao, No, co, m, rfl, hj, rfl, hNj, HS, hO, hb⟩ := hrel
        by_cases hlt : j < 8
        · have hj8 : (j : Int) < 8 := by omega
          have hix := HIX.out j hlt
          have HB : Hid (R.has ns j = f j) := Lib.hid (by rw [HF.out])
          generalize f j = b at *
          cases b with
          | false =>
            have HS2 : Hid (m.length = No ∧ m = R.here ns (j + 1)) := Lib.hid ⟨HS.out.1, by rw [R.here_no HB.out]; exact HS.out.2⟩
            go_wp2
            go_roundw
            case rel => exact ⟨j + 1, Ao, No, co, m, by go_num, by omega, rfl, by omega, HS2, hO, hb⟩
            case measure => simp [intOf]; omega
          | true =>
            have hl1 : zi (m ++ [j]) = zi m ++ [(j : Int)] := by simp [zi]
            have HL1 := Lib.hid hl1
            have hbs := hb.size
            obtain ⟨w3, hw3⟩ : ∃ W, wr.alloc (.cells #[.int .i64 j] 3) = W := ⟨_, rfl⟩
            have hb3 : Below wr.heap.size wr w3 := by rw [← hw3]; exact b_alloc _ _
            have hrow3 := own_newI hO hb3
            have hlit : Rds w3 (fun _ => True) (some ⟨wr.heap.size, 0, none⟩) (i64s [(j : Int)]) := by rw [← hw3]; exact one_rds wr .i64 (j : Int) 3
            have hb03 := below_new hb hb3
            have hs3 := hb03.size
            have HW3 := Lib.hid hw3
            rw [← hw3] at hrow3 hlit hs3
            clear hw3 hl1 hO hb
            go_wp2_with (at_builtin; refine wpList_app _ rfl _ _ 22 rfl w.heap.size 3 i0 _ 8 Try.underlying22 HI.out HZ.out.1 HZ.out.2.1 HZ.out.2.2 rfl (.slice Ao No co) No _ rfl hrow3 (fun _ => True) _ 1 1 (i64s [(j : Int)]) rfl rfl hlit (one_ints _ _) (by unfold maxLen; omega) (by omega) hs3 ?_)
            intro v4 w4 hrow4 hg4 hv4
            rw [HW3.out] at hg4
            obtain ⟨A4, c4, rfl, _, _⟩ := own_form hrow4
            have hb4 : Below w.heap.size w w4 := hb03.grown hg4 hb03.size (fun k hk => (World.ownsRow.lt hrow3 k hk).1)
            have HS2 : Hid ((m ++ [j]).length = No + 1 ∧ m ++ [j] = R.here ns (j + 1)) := Lib.hid ⟨by rw [List.length_append, HS.out.1]; rfl, by rw [R.here_yes HB.out, ← HS.out.2]⟩
            have hrow5 : w4.ownsRow w.heap.size 3 1 (.slice A4 (No + 1) c4) (No + 1) (i64s (zi (m ++ [j]))) := by rw [HL1.out]; simpa [i64s] using hrow4
            clear hlit hrow4 hg4 hv4 hrow3 hb03 hs3 hb3
            go_wp2
            go_roundw
            case rel => exact ⟨j + 1, A4, No + 1, c4, m ++ [j], by go_num, by omega, rfl, by omega, HS2, hrow5, hb4⟩
            case measure => simp [intOf]; omega
        · obtain rfl : j = 8 := by omega
          have hj8 : ¬ ((8 : Nat) : Int) < 8 := by omega
          have HE : Hid (No = (R.here ns 8).length ∧ m = R.here ns 8) := Lib.hid ⟨by rw [← HS.out.2]; exact HS.out.1.symm, HS.out.2⟩
          clear HIX HF HS
          go_wp2
          go_ret
          have e := HE.out.2
          rw [e] at hO
          exact ⟨Ao, No, co, rfl, HE.out.1, hO, hb⟩
end Go.Proofs.Ytdgmbopdommnhaa.Rk
