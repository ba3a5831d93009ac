/- The walk of MixHashes. -/
import Derived.Test.YtabilkjfijljbaaMixAlive
import Derived.Test.YtabilkjfijljbaaArgs
namespace Go.Proofs.Ytabilkjfijljbaa
open Go.ChangeShapes Go.WideShapes Go.ChangeAt Go.RowKit

theorem box_cells {w w' : World} {t : TypeId} {a b c d : Value} (hb : Below (w.alloc (.cells #[a, b, c, d] t)).heap.size (w.alloc (.cells #[a, b, c, d] t)) w') :
    w'.cell? ⟨w.heap.size, 0, none⟩ = some a ∧ w'.cell? ⟨w.heap.size, 1, none⟩ = some b ∧ w'.cell? ⟨w.heap.size, 2, none⟩ = some c ∧ w'.cell? ⟨w.heap.size, 3, none⟩ = some d := by
  have h := (Blo.made w t #[a, b, c, d]).new hb
  exact ⟨h.cell 0, h.cell 1, h.cell 2, h.cell 3⟩

set_option maxHeartbeats 400000 in
theorem mixHashes_big (a : Option Addr) (len cap : Nat) (x y z : Int) (w : World) (hl : 5000 < len) (hm : len ≤ maxLen) :
    Calls Try.prog 3 #[.agg #[.slice a len cap, .int .i64 x, .int .i64 y, .int .u64 z]] w fun e w' => e = .returned (.bool true) ∧ Below w.heap.size w w' := by
  unfold maxLen at hm
  have hB0 : Below w.heap.size w (w.alloc (.cells #[.slice a len cap, .int .i64 x, .int .i64 y, .int .u64 z] 25)) := (Below.refl _ _).alloc (Nat.le_refl _) _
  go_enter Try.func3, Try.ntmps3
  go_wp2_with fail
  refine (mix_alive _).mono ?_
  rintro e w1 ⟨rfl, hb⟩
  obtain ⟨c0, c1, c2, c3⟩ := box_cells hb
  have hB := below_new hB0 hb
  clear hb hB0
  go_wp2_with fail
  go_quiet (fail)
  go_wp2
  go_ret
  exact ⟨rfl, below_drewN hB _⟩

set_option maxHeartbeats 400000 in
theorem mixHashes_yes (a : Option Addr) (cap : Nat) (l : List Nat) (x y : Int) (z : Nat) (w : World) (hl : l.length ≤ 5000) (hr : Rds w (· < w.heap.size) a (nby l)) (hs : Small l) (hz : z < 18446744073709551616) :
    Calls Try.prog 3 #[.agg #[.slice a l.length cap, .int .i64 x, .int .i64 y, .int .u64 (z : Int)]] w fun e w' => e = .returned (.bool true) ∧ Below w.heap.size w w' := by
  have hB0 : Below w.heap.size w (w.alloc (.cells #[.slice a l.length cap, .int .i64 x, .int .i64 y, .int .u64 (z : Int)] 25)) := (Below.refl _ _).alloc (Nat.le_refl _) _
  go_enter Try.func3, Try.ntmps3
  go_wp2_with fail
  refine (mix_alive _).mono ?_
  rintro e w1 ⟨rfl, hb⟩
  obtain ⟨c0, c1, c2, c3⟩ := box_cells hb
  have hB := below_new hB0 hb
  clear hb hB0
  go_wp2_with fail
  go_quiet (fail)
  obtain ⟨W, hd, hW⟩ : ∃ W, Drew w1 W ∧ w1.drewN nq = W := ⟨_, ⟨nq, rfl⟩, rfl⟩
  rw [hW]
  have hBW := hB.trans (hd.below _)
  have hrW := hr.new hBW
  clear hW hd hB c0 c1 c2 c3 hr
  go_wp2_with fail
  refine (hash_any _ a l.length cap l W rfl hrW (by omega) hs).mono ?_
  rintro e w2 ⟨rfl, rfl⟩
  go_wp2_with fail
  refine (rhash_any _ a l.length cap l W rfl hrW (by omega) hs).mono ?_
  rintro e w2 ⟨rfl, rfl⟩
  go_wp2_with fail
  refine (weight_any x y z W hz).mono ?_
  rintro e w2 ⟨rfl, hb2⟩
  go_wp2_with fail
  refine (rweight_any x y z w2 hz).mono ?_
  rintro e w3 ⟨rfl, hb3⟩
  have hall := hBW.trans ((below_new hb2 hb3).mono hBW.size)
  go_wp2
  go_ret
  exact ⟨rfl, hall⟩

theorem mixHashes_walk {H : Type} (enc : TypeId × Value → H) (v0 : Value) (w : World) (base : Nat) (d0 : DataW H) (p0 : List MemPlace)
    (o0 : Value.okWide Try.prog w .any base 25 v0) (k0 : DataW.Trod enc Try.prog w 0 (fun _ => true) true 25 v0 d0 p0) :
    Calls Try.prog 3 #[v0] w fun e w' => e = .returned (.bool true) ∧ Below w.heap.size w w' := by
  obtain ⟨u0, u1, u2, u3, y0, y1, y2, y3, n, rfl, _, _, t0, t1, t2, t3⟩ := Go.Joins.open_agg4 Try.underlying25 (by kernel_rfl) (by kernel_rfl) o0 k0
  obtain ⟨a, len, cap, zs, rfl, h⟩ := cell_ints Try.underlying22 Try.underlying5 (by kernel_rfl) t0
  obtain ⟨x, rfl, hx⟩ := cell_int Try.underlying3 t1
  obtain ⟨y, rfl, hy⟩ := cell_int Try.underlying3 t2
  obtain ⟨z, rfl, hz⟩ := cell_int Try.underlying23 t3
  by_cases hl : 5000 < len
  · exact mixHashes_big a len cap x y z w hl h.max
  · obtain ⟨l, rfl, hr, hs⟩ := h.nat
    obtain ⟨m, rfl, hm⟩ := wf_u64 hz
    exact mixHashes_yes a cap l x y m w (by omega) hr hs hm
end Go.Proofs.Ytabilkjfijljbaa
