/- Layer 7, the document's own: Great. -/
import Derived.Test.YtodlifbhpgphcaaEvMem
namespace Go.Proofs.Ytodlifbhpgphcaa
set_option linter.unusedVariables false
set_option linter.unusedSimpArgs false
open Go.ChangeShapes Go.WideShapes Go.ChangeAt Go.RowKit

/-- How much events come to. -/
def bulk : List EvV → Int
  | [] => 0
  | e :: l => 1 + (e.M.length : Int) + bulk l
theorem bulk_snoc (l : List EvV) (e : EvV) : bulk (l ++ [e]) = bulk l + (1 + (e.M.length : Int)) := by
  induction l with
  | nil => simp [bulk]
  | cons x l ih => simp [bulk, ih]; omega
theorem bulk_len (l : List EvV) : (l.length : Int) ≤ bulk l := by
  induction l with
  | nil => simp [bulk]
  | cons x l ih => simp [bulk]; omega
theorem bulk_mem {l : List EvV} {e : EvV} (h : e ∈ l) : (e.M.length : Int) ≤ bulk l := by
  induction l with
  | nil => cases h
  | cons x l ih =>
    have := bulk_len l
    rcases List.mem_cons.1 h with rfl | h
    · simp [bulk]; omega
    · have := ih h
      simp [bulk]; omega
/-- None is of a length beyond all machines. -/
def Meek (l : List EvV) : Prop := ∀ e ∈ l, e.M.length ≤ 8796093022208
def GreatPost (l : List EvV) (w : World) (e : Ending) (w' : World) : Prop := ∃ b : Bool, e = .returned (.bool b) ∧ Below w.heap.size w w' ∧ (b = false → Meek l → bulk l ≤ 3000)

set_option maxRecDepth 100000 in
set_option maxHeartbeats 4000000 in
theorem great_any (S : Nat → Prop) (A : Option Addr) (n c : Nat) (l : List EvV) (w : World) (hn : l.length = n) (hr : ERds w S A l) (hl : n ≤ maxLen) :
    Calls Try.prog 8 #[.slice A n c] w (GreatPost l w) := by
  have HN := Lib.hid hn
  unfold maxLen at hl
  clear hn
  go_enter Try.func8, Try.ntmps8
  go_wp2_with fail
  go_loopw [3, 8] (fun sv iv wr => ∃ (i : Nat) (s : Int), iv = .int .i64 i ∧ i ≤ n ∧ sv = .int .i64 s ∧ Hid (Meek l → s = bulk (l.take i) ∧ s ≤ 3000) ∧ Below w.heap.size w wr) (fun _ iv _ => n - (intOf iv).toNat)
  case atStart => exact ⟨0, 0, rfl, by omega, rfl, Lib.hid (fun _ => ⟨by simp [bulk], by omega⟩), Below.refl _ _⟩
  case round =>
    obtain ⟨i, s, rfl, hi, rfl, HS, hb⟩ := hrel
    by_cases hlt : i < n
    · have hlt' : i < l.length := by rw [HN.out]; exact hlt
      obtain ⟨ad, rfl, _, _, c0, c1, c2, c3, c4, c5, c6, c7, c8, c9, c10, c11, c12, c13⟩ := (hr.new hb).cells hlt'
      obtain ⟨x, hx⟩ : ∃ x, x = l[i] := ⟨_, rfl⟩
      rw [← hx] at c0 c1 c2 c3 c4 c5 c6 c7 c8 c9 c10 c11 c12 c13
      have HX := Lib.hid hx
      obtain ⟨s', hs'⟩ : ∃ s', s' = wrap64 (s + wrap64 (1 + (x.M.length : Int))) := ⟨_, rfl⟩
      have HS' : Hid (Meek l → s' = bulk (l.take (i + 1))) := Lib.hid (fun hm => by
        obtain ⟨h1, h2⟩ := HS.out hm
        have hx1 : x.M.length ≤ 8796093022208 := by rw [hx]; exact hm _ (List.getElem_mem hlt')
        have hs0 : 0 ≤ s := by rw [h1]; have := bulk_len (l.take i); omega
        rw [hs', IntWalk.wrap64_in (1 + (x.M.length : Int)) (by omega), IntWalk.wrap64_in _ (by omega), List.take_succ_eq_append_getElem hlt', bulk_snoc, ← hx, h1])
      have hs2 := hs'.symm
      clear hx hs'
      by_cases h3 : 3000 < s'
      · go_wp2
        go_ret
        exact ⟨true, rfl, below_new hb (b_alloc _ _), fun h => by cases h⟩
      · have HS3 : Hid (Meek l → s' = bulk (l.take (i + 1)) ∧ s' ≤ 3000) := Lib.hid (fun hm => ⟨HS'.out hm, by omega⟩)
        go_wp2
        go_roundw
        case rel => exact ⟨i + 1, s', by go_num, by omega, by rw [hs2], HS3, below_new hb (b_alloc _ _)⟩
        case measure => simp [intOf]; omega
    · have HF : Hid (Meek l → bulk l ≤ 3000) := Lib.hid (fun hm => by
        obtain ⟨h1, h2⟩ := HS.out hm
        rw [List.take_of_length_le (by rw [HN.out]; omega)] at h1
        omega)
      go_wp2
      go_ret
      exact ⟨false, rfl, hb, fun _ => HF.out⟩
end Go.Proofs.Ytodlifbhpgphcaa
