/- Layer 7, the document's own: numbers. -/
import Derived.Test.YtlckappnpdkihaaEvRef1
import Derived.Test.YtlckappnpdkihaaVint
namespace Go.Proofs.Ytlckappnpdkihaa
set_option linter.unusedVariables false
set_option linter.unusedSimpArgs false
open Go.ChangeShapes Go.WideShapes Go.ChangeAt Go.RowKit

abbrev pcs (F : Nat → Int) : Array Value := #[.int .i64 (F 6), .int .i64 (F 7), .int .i64 (F 8), .int .i64 (F 9), .int .i64 (F 10), .int .i64 (F 11), .int .i64 (F 12)]
/-- A call answers a row of numbers of its own. -/
def IntsPost (l : List Int) (w : World) (e : Ending) (w' : World) : Prop :=
  ∃ A N c, e = .returned (.slice A N c) ∧ N = l.length ∧ w'.ownsRow w.heap.size 3 1 (.slice A N c) N (i64s l) ∧ Below w.heap.size w w'
theorem own_lit (w : World) (l : List Int) {B : Nat} (hB : B ≤ w.heap.size) (hl : l.length ≤ 1000) : (w.alloc (.cells (i64s l).toArray 3)).ownsRow B 3 1 (.slice (some ⟨w.heap.size, 0, none⟩) l.length l.length) l.length (i64s l) := by
  have := World.ownsRow_lit (base := B) (e := 3) (size := 1) w (i64s l).toArray l.length hB (by unfold maxLen; omega) (by simp)
  simpa using this
theorem lit_rds' (w : World) (l : List Int) (t : TypeId) {b : Nat} (hb : b = w.heap.size) : Rds (w.alloc (.cells (i64s l).toArray t)) (fun _ => True) (some ⟨b, 0, none⟩) (i64s l) := by
  subst hb; exact lit_rds w l .i64 t
/-- A row of numbers behind an append, with a block of another kind beside it. -/
theorem after_app {w W w' : World} {g : Nat} {t : TypeId} {cs : Array Value} {v v' : Value} {n m : Nat} {l news : List Int} {o : Obj} (hB : Blo W g t cs) (ht : 3 ≠ t) (hb : Below w.heap.size w W) (ho : W.ownsRow w.heap.size 3 1 v n (i64s l))
    (ho' : w'.ownsRow w.heap.size 3 1 v' (n + m) (i64s l ++ i64s news)) (hg : (W.alloc o).grownBy w' v.ownBlock) (hn : n = l.length) (hm : m = news.length) :
    ∃ A N c, v' = .slice A N c ∧ Hid (N = (l ++ news).length) ∧ w'.ownsRow w.heap.size 3 1 (.slice A N c) N (i64s (l ++ news)) ∧ Blo w' g t cs ∧ Below w.heap.size w w' := by
  obtain ⟨A, c, rfl, _, _⟩ := own_form ho'
  have hoa := ho.alloc o
  have hs := hb.size
  refine ⟨A, n + m, c, rfl, Lib.hid (by rw [hn, hm]; simp), by simpa using ho', ?_, ?_⟩
  · exact (hB.alloc o).grown hg (fun e => own_blo hoa (hB.alloc o) ht e.symm)
  · exact (hb.trans ((b_alloc W o).mono hs)).grown hg (by simp; omega) (fun k hk => (hoa.lt k hk).1)

set_option maxRecDepth 100000 in
set_option maxHeartbeats 4000000 in
theorem enums_any (S : Nat → Prop) (F : Nat → Int) (A : Option Addr) (n c : Nat) (M : List D.Dot) (w : World) (hn : M.length = n) (hr : Rds w S A (dvs M)) (hl : n ≤ 1000) :
    Calls Try.prog 44 #[ev F A n c] w (IntsPost (E.nums F M) w) := by
  obtain ⟨i0, hi, hz0, hz1, hz2⟩ := info_parts Try.rowI64
  have HN := Lib.hid hn
  obtain ⟨w1, hw1⟩ : ∃ W, w.alloc (.cells (ecs F A n c) 28) = W := ⟨_, rfl⟩
  obtain ⟨w2, hw2⟩ : ∃ W, w1.alloc (.cells (i64s [F 0, F 1, F 2, F 3, F 4]).toArray 3) = W := ⟨_, rfl⟩
  obtain ⟨w3, hw3⟩ : ∃ W, w2.alloc (.cells (pcs F) 25) = W := ⟨_, rfl⟩
  have hb1 : Below w.heap.size w w1 := by rw [← hw1]; exact b_alloc _ _
  have hb2 : Below w1.heap.size w1 w2 := by rw [← hw2]; exact b_alloc _ _
  have hb3 : Below w2.heap.size w2 w3 := by rw [← hw3]; exact b_alloc _ _
  have s1 : w1.heap.size = w.heap.size + 1 := by rw [← hw1]; simp
  have s2 : w2.heap.size = w.heap.size + 1 + 1 := by rw [← hw2]; simp [s1]
  have hE3 : Blo w3 w.heap.size 28 (ecs F A n c) := by
    refine Blo.new (Blo.new (w := w1) ?_ hb2) hb3
    rw [← hw1]; exact Blo.made _ _ _
  have ho2 : w2.ownsRow w.heap.size 3 1 (.slice (some ⟨w.heap.size + 1, 0, none⟩) 5 5) 5 (i64s [F 0, F 1, F 2, F 3, F 4]) := by
    have := own_lit w1 [F 0, F 1, F 2, F 3, F 4] hb1.size (by simp)
    rw [hw2, s1] at this
    exact this
  have ho3 := own_keep (w' := w3) ho2 fun g _ hl => hb3.block g hl
  have hb03 := below_new (below_new hb1 hb2) hb3
  have hrf := hr.old
  rw [← hw3, ← hw2, ← hw1] at hE3 ho3 hb03
  clear hw1 hw2 hw3 hb1 hb2 hb3 s1 s2 ho2 hn w1 w2 w3
  by_cases k1 : F 3 = 1
  · have HNU : Hid (E.nums F M = [F 0, F 1, F 2, 1, F 4] ++ [F 5]) := Lib.hid (by unfold E.nums; rw [if_pos k1, k1])
    have ho4 : (((w.alloc (.cells #[.int .i64 (F 0), .int .i64 (F 1), .int .i64 (F 2), .int .i64 1, .int .i64 (F 4), .int .i64 (F 5), .int .i64 (F 6), .int .i64 (F 7), .int .i64 (F 8), .int .i64 (F 9), .int .i64 (F 10), .int .i64 (F 11), .int .i64 (F 12), .slice A n c] 28)).alloc (.cells #[.int .i64 (F 0), .int .i64 (F 1), .int .i64 (F 2), .int .i64 1, .int .i64 (F 4)] 3)).alloc (.cells (pcs F) 25)).ownsRow w.heap.size 3 1 (.slice (some ⟨w.heap.size + 1, 0, none⟩) 5 5) 5 (i64s [F 0, F 1, F 2, 1, F 4]) := by
      have := ho3
      have e : ecs F A n c = #[.int .i64 (F 0), .int .i64 (F 1), .int .i64 (F 2), .int .i64 1, .int .i64 (F 4), .int .i64 (F 5), .int .i64 (F 6), .int .i64 (F 7), .int .i64 (F 8), .int .i64 (F 9), .int .i64 (F 10), .int .i64 (F 11), .int .i64 (F 12), .slice A n c] := by unfold ecs; rw [k1]
      have e2 : (i64s [F 0, F 1, F 2, F 3, F 4]).toArray = #[.int .i64 (F 0), .int .i64 (F 1), .int .i64 (F 2), .int .i64 1, .int .i64 (F 4)] := by rw [k1]; rfl
      rw [e2, e] at this
      rw [k1] at this
      exact this
    have hE4 : Blo (((w.alloc (.cells #[.int .i64 (F 0), .int .i64 (F 1), .int .i64 (F 2), .int .i64 1, .int .i64 (F 4), .int .i64 (F 5), .int .i64 (F 6), .int .i64 (F 7), .int .i64 (F 8), .int .i64 (F 9), .int .i64 (F 10), .int .i64 (F 11), .int .i64 (F 12), .slice A n c] 28)).alloc (.cells #[.int .i64 (F 0), .int .i64 (F 1), .int .i64 (F 2), .int .i64 1, .int .i64 (F 4)] 3)).alloc (.cells (pcs F) 25)) w.heap.size 28 #[.int .i64 (F 0), .int .i64 (F 1), .int .i64 (F 2), .int .i64 1, .int .i64 (F 4), .int .i64 (F 5), .int .i64 (F 6), .int .i64 (F 7), .int .i64 (F 8), .int .i64 (F 9), .int .i64 (F 10), .int .i64 (F 11), .int .i64 (F 12), .slice A n c] := by
      have := hE3
      have e : ecs F A n c = #[.int .i64 (F 0), .int .i64 (F 1), .int .i64 (F 2), .int .i64 1, .int .i64 (F 4), .int .i64 (F 5), .int .i64 (F 6), .int .i64 (F 7), .int .i64 (F 8), .int .i64 (F 9), .int .i64 (F 10), .int .i64 (F 11), .int .i64 (F 12), .slice A n c] := by unfold ecs; rw [k1]
      have e2 : (i64s [F 0, F 1, F 2, F 3, F 4]).toArray = #[.int .i64 (F 0), .int .i64 (F 1), .int .i64 (F 2), .int .i64 1, .int .i64 (F 4)] := by rw [k1]; rfl
      rw [e2, e] at this
      exact this
    have hb4 : Below w.heap.size w (((w.alloc (.cells #[.int .i64 (F 0), .int .i64 (F 1), .int .i64 (F 2), .int .i64 1, .int .i64 (F 4), .int .i64 (F 5), .int .i64 (F 6), .int .i64 (F 7), .int .i64 (F 8), .int .i64 (F 9), .int .i64 (F 10), .int .i64 (F 11), .int .i64 (F 12), .slice A n c] 28)).alloc (.cells #[.int .i64 (F 0), .int .i64 (F 1), .int .i64 (F 2), .int .i64 1, .int .i64 (F 4)] 3)).alloc (.cells (pcs F) 25)) := by
      have := hb03
      have e : ecs F A n c = #[.int .i64 (F 0), .int .i64 (F 1), .int .i64 (F 2), .int .i64 1, .int .i64 (F 4), .int .i64 (F 5), .int .i64 (F 6), .int .i64 (F 7), .int .i64 (F 8), .int .i64 (F 9), .int .i64 (F 10), .int .i64 (F 11), .int .i64 (F 12), .slice A n c] := by unfold ecs; rw [k1]
      have e2 : (i64s [F 0, F 1, F 2, F 3, F 4]).toArray = #[.int .i64 (F 0), .int .i64 (F 1), .int .i64 (F 2), .int .i64 1, .int .i64 (F 4)] := by rw [k1]; rfl
      rw [e2, e] at this
      exact this
    clear ho3 hE3 hb03
    go_enter Try.func44, Try.ntmps44
    go_wp2_with (at_builtin; refine wpList_app _ rfl _ _ 70 rfl w.heap.size 3 i0 (.int .i64 0) 8 Try.underlying70 hi hz0 hz1 hz2 rfl (.slice (some ⟨w.heap.size + 1, 0, none⟩) 5 5) 5 (i64s ([F 0, F 1, F 2, 1, F 4])) rfl (ho4.alloc _) (fun _ => True) _ 1 1 (i64s [F 5]) rfl rfl (lit_rds' _ [F 5] _ (by simp)) (one_ints _ [F 5]) (by unfold maxLen; omega) (by omega) (by first | (simp; done) | (simp; omega)) ?_)
    intro v4 w5 ho5 hg5 _
    obtain ⟨A5, N5, c5, rfl, HN5, ho5', _, hb5⟩ := after_app (m := 1) (news := [F 5]) hE4 (by decide) hb4 ho4 ho5 hg5 rfl rfl
    clear ho5 hg5 hE4 ho4 hb4
    go_wp2
    go_ret
    rw [HNU.out]
    exact ⟨A5, N5, c5, rfl, HN5.out, ho5', hb5⟩
  by_cases k2 : F 3 = 2
  case' pos =>
    have HNU : Hid (E.nums F M = [F 0, F 1, F 2, 2, F 4] ++ [F 6, F 7, F 8, F 9, F 10, F 11, F 12] ++ [(n : Int)] ++ E.numM M) := Lib.hid (by unfold E.nums E.numP; rw [if_neg k1, if_pos k2, k2, HN.out]; simp)
    have ho4 : (((w.alloc (.cells #[.int .i64 (F 0), .int .i64 (F 1), .int .i64 (F 2), .int .i64 2, .int .i64 (F 4), .int .i64 (F 5), .int .i64 (F 6), .int .i64 (F 7), .int .i64 (F 8), .int .i64 (F 9), .int .i64 (F 10), .int .i64 (F 11), .int .i64 (F 12), .slice A n c] 28)).alloc (.cells #[.int .i64 (F 0), .int .i64 (F 1), .int .i64 (F 2), .int .i64 2, .int .i64 (F 4)] 3)).alloc (.cells (pcs F) 25)).ownsRow w.heap.size 3 1 (.slice (some ⟨w.heap.size + 1, 0, none⟩) 5 5) 5 (i64s [F 0, F 1, F 2, 2, F 4]) := by
      have := ho3
      have e : ecs F A n c = #[.int .i64 (F 0), .int .i64 (F 1), .int .i64 (F 2), .int .i64 2, .int .i64 (F 4), .int .i64 (F 5), .int .i64 (F 6), .int .i64 (F 7), .int .i64 (F 8), .int .i64 (F 9), .int .i64 (F 10), .int .i64 (F 11), .int .i64 (F 12), .slice A n c] := by unfold ecs; rw [k2]
      have e2 : (i64s [F 0, F 1, F 2, F 3, F 4]).toArray = #[.int .i64 (F 0), .int .i64 (F 1), .int .i64 (F 2), .int .i64 2, .int .i64 (F 4)] := by rw [k2]; rfl
      rw [e2, e] at this
      rw [k2] at this
      exact this
    have hE4 : Blo (((w.alloc (.cells #[.int .i64 (F 0), .int .i64 (F 1), .int .i64 (F 2), .int .i64 2, .int .i64 (F 4), .int .i64 (F 5), .int .i64 (F 6), .int .i64 (F 7), .int .i64 (F 8), .int .i64 (F 9), .int .i64 (F 10), .int .i64 (F 11), .int .i64 (F 12), .slice A n c] 28)).alloc (.cells #[.int .i64 (F 0), .int .i64 (F 1), .int .i64 (F 2), .int .i64 2, .int .i64 (F 4)] 3)).alloc (.cells (pcs F) 25)) w.heap.size 28 #[.int .i64 (F 0), .int .i64 (F 1), .int .i64 (F 2), .int .i64 2, .int .i64 (F 4), .int .i64 (F 5), .int .i64 (F 6), .int .i64 (F 7), .int .i64 (F 8), .int .i64 (F 9), .int .i64 (F 10), .int .i64 (F 11), .int .i64 (F 12), .slice A n c] := by
      have := hE3
      have e : ecs F A n c = #[.int .i64 (F 0), .int .i64 (F 1), .int .i64 (F 2), .int .i64 2, .int .i64 (F 4), .int .i64 (F 5), .int .i64 (F 6), .int .i64 (F 7), .int .i64 (F 8), .int .i64 (F 9), .int .i64 (F 10), .int .i64 (F 11), .int .i64 (F 12), .slice A n c] := by unfold ecs; rw [k2]
      have e2 : (i64s [F 0, F 1, F 2, F 3, F 4]).toArray = #[.int .i64 (F 0), .int .i64 (F 1), .int .i64 (F 2), .int .i64 2, .int .i64 (F 4)] := by rw [k2]; rfl
      rw [e2, e] at this
      exact this
    have hb4 : Below w.heap.size w (((w.alloc (.cells #[.int .i64 (F 0), .int .i64 (F 1), .int .i64 (F 2), .int .i64 2, .int .i64 (F 4), .int .i64 (F 5), .int .i64 (F 6), .int .i64 (F 7), .int .i64 (F 8), .int .i64 (F 9), .int .i64 (F 10), .int .i64 (F 11), .int .i64 (F 12), .slice A n c] 28)).alloc (.cells #[.int .i64 (F 0), .int .i64 (F 1), .int .i64 (F 2), .int .i64 2, .int .i64 (F 4)] 3)).alloc (.cells (pcs F) 25)) := by
      have := hb03
      have e : ecs F A n c = #[.int .i64 (F 0), .int .i64 (F 1), .int .i64 (F 2), .int .i64 2, .int .i64 (F 4), .int .i64 (F 5), .int .i64 (F 6), .int .i64 (F 7), .int .i64 (F 8), .int .i64 (F 9), .int .i64 (F 10), .int .i64 (F 11), .int .i64 (F 12), .slice A n c] := by unfold ecs; rw [k2]
      have e2 : (i64s [F 0, F 1, F 2, F 3, F 4]).toArray = #[.int .i64 (F 0), .int .i64 (F 1), .int .i64 (F 2), .int .i64 2, .int .i64 (F 4)] := by rw [k2]; rfl
      rw [e2, e] at this
      exact this
    clear ho3 hE3 hb03
    go_enter Try.func44, Try.ntmps44
    go_wp2_with (at_builtin; refine wpList_app _ rfl _ _ 70 rfl w.heap.size 3 i0 (.int .i64 0) 8 Try.underlying70 hi hz0 hz1 hz2 rfl (.slice (some ⟨w.heap.size + 1, 0, none⟩) 5 5) 5 (i64s ([F 0, F 1, F 2, 2, F 4])) rfl (ho4.alloc _) (fun _ => True) _ 7 7 (i64s [F 6, F 7, F 8, F 9, F 10, F 11, F 12]) rfl rfl (lit_rds' _ [F 6, F 7, F 8, F 9, F 10, F 11, F 12] _ (by simp)) (one_ints _ [F 6, F 7, F 8, F 9, F 10, F 11, F 12]) (by unfold maxLen; omega) (by omega) (by first | (simp; done) | (simp; omega)) ?_)
    intro v4 w5 ho5 hg5 _
    obtain ⟨A5, N5, c5, rfl, HN5, ho5', hE5, hb5⟩ := after_app (m := 7) (news := [F 6, F 7, F 8, F 9, F 10, F 11, F 12]) hE4 (by decide) hb4 ho4 ho5 hg5 rfl rfl
    have z13 : w5.cell? ⟨w.heap.size, 13, none⟩ = some (.slice A n c) := by simpa using hE5.cell 13
    have hN5 : N5 = 12 := HN5.out
    subst hN5
    have hs5 := hb5.size
    clear ho5 hg5 hE4 ho4 hb4
    go_wp2_with (at_builtin; refine wpList_app _ rfl _ _ 70 rfl w.heap.size 3 i0 (.int .i64 0) 8 Try.underlying70 hi hz0 hz1 hz2 rfl (.slice A5 12 c5) 12 (i64s ([F 0, F 1, F 2, 2, F 4] ++ [F 6, F 7, F 8, F 9, F 10, F 11, F 12])) rfl (ho5'.alloc _) (fun _ => True) _ 1 1 (i64s [(n : Int)]) rfl rfl (lit_rds' _ [(n : Int)] _ (by simp)) (one_ints _ [(n : Int)]) (by unfold maxLen; omega) (by omega) (by first | (simp; done) | (simp; omega)) ?_)
    intro v6 w6 ho6 hg6 _
    obtain ⟨A6, N6, c6, rfl, HN6, ho6', hE6, hb6⟩ := after_app (m := 1) (news := [(n : Int)]) hE5 (by decide) hb5 ho5' ho6 hg6 rfl rfl
    obtain ⟨Q, hQ⟩ : ∃ Q, Q = [F 0, F 1, F 2, 2, F 4] ++ [F 6, F 7, F 8, F 9, F 10, F 11, F 12] ++ [(n : Int)] := ⟨_, rfl⟩
    have hQl : Q.length ≤ 20 := by rw [hQ]; simp
    rw [← hQ] at HN6 ho6' HNU
    clear hQ ho6 hg6 hE5 ho5' hb5 z13 hs5 HN5
  case' neg =>
    have HNU : Hid (E.nums F M = [F 0, F 1, F 2, F 3, F 4] ++ [(n : Int)] ++ E.numM M) := Lib.hid (by unfold E.nums E.numP; rw [if_neg k1, if_neg k2, HN.out]; simp)
    have ho4 : (((w.alloc (.cells #[.int .i64 (F 0), .int .i64 (F 1), .int .i64 (F 2), .int .i64 (F 3), .int .i64 (F 4), .int .i64 (F 5), .int .i64 (F 6), .int .i64 (F 7), .int .i64 (F 8), .int .i64 (F 9), .int .i64 (F 10), .int .i64 (F 11), .int .i64 (F 12), .slice A n c] 28)).alloc (.cells #[.int .i64 (F 0), .int .i64 (F 1), .int .i64 (F 2), .int .i64 (F 3), .int .i64 (F 4)] 3)).alloc (.cells (pcs F) 25)).ownsRow w.heap.size 3 1 (.slice (some ⟨w.heap.size + 1, 0, none⟩) 5 5) 5 (i64s [F 0, F 1, F 2, (F 3), F 4]) := by
      have := ho3
      have e : ecs F A n c = #[.int .i64 (F 0), .int .i64 (F 1), .int .i64 (F 2), .int .i64 (F 3), .int .i64 (F 4), .int .i64 (F 5), .int .i64 (F 6), .int .i64 (F 7), .int .i64 (F 8), .int .i64 (F 9), .int .i64 (F 10), .int .i64 (F 11), .int .i64 (F 12), .slice A n c] := by rfl
      have e2 : (i64s [F 0, F 1, F 2, F 3, F 4]).toArray = #[.int .i64 (F 0), .int .i64 (F 1), .int .i64 (F 2), .int .i64 (F 3), .int .i64 (F 4)] := by rfl
      rw [e2, e] at this
      exact this
    have hE4 : Blo (((w.alloc (.cells #[.int .i64 (F 0), .int .i64 (F 1), .int .i64 (F 2), .int .i64 (F 3), .int .i64 (F 4), .int .i64 (F 5), .int .i64 (F 6), .int .i64 (F 7), .int .i64 (F 8), .int .i64 (F 9), .int .i64 (F 10), .int .i64 (F 11), .int .i64 (F 12), .slice A n c] 28)).alloc (.cells #[.int .i64 (F 0), .int .i64 (F 1), .int .i64 (F 2), .int .i64 (F 3), .int .i64 (F 4)] 3)).alloc (.cells (pcs F) 25)) w.heap.size 28 #[.int .i64 (F 0), .int .i64 (F 1), .int .i64 (F 2), .int .i64 (F 3), .int .i64 (F 4), .int .i64 (F 5), .int .i64 (F 6), .int .i64 (F 7), .int .i64 (F 8), .int .i64 (F 9), .int .i64 (F 10), .int .i64 (F 11), .int .i64 (F 12), .slice A n c] := by
      have := hE3
      have e : ecs F A n c = #[.int .i64 (F 0), .int .i64 (F 1), .int .i64 (F 2), .int .i64 (F 3), .int .i64 (F 4), .int .i64 (F 5), .int .i64 (F 6), .int .i64 (F 7), .int .i64 (F 8), .int .i64 (F 9), .int .i64 (F 10), .int .i64 (F 11), .int .i64 (F 12), .slice A n c] := by rfl
      have e2 : (i64s [F 0, F 1, F 2, F 3, F 4]).toArray = #[.int .i64 (F 0), .int .i64 (F 1), .int .i64 (F 2), .int .i64 (F 3), .int .i64 (F 4)] := by rfl
      rw [e2, e] at this
      exact this
    have hb4 : Below w.heap.size w (((w.alloc (.cells #[.int .i64 (F 0), .int .i64 (F 1), .int .i64 (F 2), .int .i64 (F 3), .int .i64 (F 4), .int .i64 (F 5), .int .i64 (F 6), .int .i64 (F 7), .int .i64 (F 8), .int .i64 (F 9), .int .i64 (F 10), .int .i64 (F 11), .int .i64 (F 12), .slice A n c] 28)).alloc (.cells #[.int .i64 (F 0), .int .i64 (F 1), .int .i64 (F 2), .int .i64 (F 3), .int .i64 (F 4)] 3)).alloc (.cells (pcs F) 25)) := by
      have := hb03
      have e : ecs F A n c = #[.int .i64 (F 0), .int .i64 (F 1), .int .i64 (F 2), .int .i64 (F 3), .int .i64 (F 4), .int .i64 (F 5), .int .i64 (F 6), .int .i64 (F 7), .int .i64 (F 8), .int .i64 (F 9), .int .i64 (F 10), .int .i64 (F 11), .int .i64 (F 12), .slice A n c] := by rfl
      have e2 : (i64s [F 0, F 1, F 2, F 3, F 4]).toArray = #[.int .i64 (F 0), .int .i64 (F 1), .int .i64 (F 2), .int .i64 (F 3), .int .i64 (F 4)] := by rfl
      rw [e2, e] at this
      exact this
    clear ho3 hE3 hb03
    go_enter Try.func44, Try.ntmps44
    go_wp2_with (at_builtin; refine wpList_app _ rfl _ _ 70 rfl w.heap.size 3 i0 (.int .i64 0) 8 Try.underlying70 hi hz0 hz1 hz2 rfl (.slice (some ⟨w.heap.size + 1, 0, none⟩) 5 5) 5 (i64s ([F 0, F 1, F 2, F 3, F 4])) rfl (ho4.alloc _) (fun _ => True) _ 1 1 (i64s [(n : Int)]) rfl rfl (lit_rds' _ [(n : Int)] _ (by simp)) (one_ints _ [(n : Int)]) (by unfold maxLen; omega) (by omega) (by first | (simp; done) | (simp; omega)) ?_)
    intro v6 w6 ho6 hg6 _
    obtain ⟨A6, N6, c6, rfl, HN6, ho6', hE6, hb6⟩ := after_app (m := 1) (news := [(n : Int)]) hE4 (by decide) hb4 ho4 ho6 hg6 rfl rfl
    obtain ⟨Q, hQ⟩ : ∃ Q, Q = [F 0, F 1, F 2, F 3, F 4] ++ [(n : Int)] := ⟨_, rfl⟩
    have hQl : Q.length ≤ 20 := by rw [hQ]; simp
    rw [← hQ] at HN6 ho6' HNU
    clear hQ ho6 hg6 hE4 ho4 hb4
  all_goals
    have hr6 := hrf.below hb6 (fun b hb _ => hb.2)
    have z13 : w6.cell? ⟨w.heap.size, 13, none⟩ = some (.slice A n c) := by simpa using hE6.cell 13
    go_wp2_with fail
    clear z13
    go_loopw [3, 59] (fun v iv wr => ∃ (i : Nat) (A7 : Option Addr) (N7 c7 : Nat), iv = .int .i64 i ∧ i ≤ n ∧ v = .slice A7 N7 c7 ∧ Hid (N7 = (Q ++ E.numM (M.take i)).length) ∧ wr.ownsRow w.heap.size 3 1 (.slice A7 N7 c7) N7 (i64s (Q ++ E.numM (M.take i))) ∧ Below w.heap.size w wr) (fun _ iv _ => n - (intOf iv).toNat)
    case atStart => exact ⟨0, A6, N6, c6, rfl, by omega, rfl, by simpa [E.numM] using HN6, by simpa [E.numM] using ho6', hb6⟩
    case round =>
      obtain ⟨i, A7, N7, c7, rfl, hi7, rfl, HN7, ho7, hb7⟩ := hrel
      have hbs := hb7.size
      by_cases hlt : i < n
      · have hlt' : i < M.length := by rw [HN.out]; exact hlt
        obtain ⟨ad, rfl, _, d1, d2⟩ := (hrf.below hb7 (fun b hb _ => hb.2)).dot hlt'
        have htk := List.take_succ_eq_append_getElem hlt'
        obtain ⟨x, hx⟩ : ∃ x, x = M[i] := ⟨_, rfl⟩
        rw [← hx] at d1 d2 htk
        obtain ⟨x1, x2⟩ := x
        simp only at d1 d2
        have hN7l : N7 ≤ 3000 := by
          rw [HN7.out]
          have : (E.numM (M.take i)).length = 2 * (M.take i).length := by
            generalize M.take i = K
            induction K with
            | nil => rfl
            | cons d K ih => simp [E.numM] at ih ⊢; omega
          simp [this]; omega
        have HTK : Hid (Q ++ E.numM (M.take (i + 1)) = (Q ++ E.numM (M.take i)) ++ [x1, x2]) := Lib.hid (by rw [htk]; simp [E.numM])
        obtain ⟨G, hG⟩ : ∃ G, G = Q ++ E.numM (M.take i) := ⟨_, rfl⟩
        rw [← hG] at HN7 ho7 HTK
        obtain ⟨w8, hw8⟩ : ∃ W, wr.alloc (.cells #[.int .i64 x1, .int .i64 x2] 23) = W := ⟨_, rfl⟩
        have hb8 : Below wr.heap.size wr w8 := by rw [← hw8]; exact b_alloc _ _
        have hD8 : Blo w8 wr.heap.size 23 #[.int .i64 x1, .int .i64 x2] := by rw [← hw8]; exact Blo.made _ _ _
        have ho8 := own_keep (w' := w8) ho7 fun g _ hl => hb8.block g hl
        have hb08 : Below w.heap.size w w8 := hb7.trans (hb8.mono hbs)
        have ho8' := ho8
        rw [← hw8] at ho8'
        have hs8 : w.heap.size ≤ (wr.alloc (.cells #[.int .i64 x1, .int .i64 x2] 23)).heap.size := by rw [hw8]; exact hb08.size
        have HW8 := Lib.hid hw8
        clear hx htk hG hw8
        go_wp2_with (at_builtin; refine wpList_app _ rfl _ _ 70 rfl w.heap.size 3 i0 (.int .i64 0) 8 Try.underlying70 hi hz0 hz1 hz2 rfl (.slice A7 N7 c7) N7 (i64s (G)) rfl (ho8'.alloc _) (fun _ => True) _ 2 2 (i64s [x1, x2]) rfl rfl (lit_rds' _ [x1, x2] _ (by simp)) (one_ints _ [x1, x2]) (by unfold maxLen; omega) (by omega) (by first | (simp; done) | (simp; omega)) ?_)
        intro v9 w9 ho9 hg9 _
        obtain ⟨A9, N9, c9, rfl, HN9, ho9', _, hb9⟩ := after_app (m := 2) (news := [x1, x2]) (o := .cells #[.int .i64 x1, .int .i64 x2] 3) hD8 (by decide) hb08 ho8 ho9 (by rw [← HW8.out]; exact hg9) HN7.out rfl
        go_wp2
        go_roundw
        case rel => exact ⟨i + 1, A9, N9, c9, by go_num, by omega, rfl, by rw [HTK.out]; exact HN9, by rw [HTK.out]; exact ho9', hb9⟩
        case measure => simp [intOf]; omega
      · have HF : Hid (Q ++ E.numM (M.take i) = E.nums F M) := Lib.hid (by rw [List.take_of_length_le (by rw [HN.out]; omega), HNU.out])
        go_wp2
        go_ret
        rw [← HF.out]
        exact ⟨A7, N7, c7, rfl, HN7.out, ho7, hb7⟩
end Go.Proofs.Ytlckappnpdkihaa
