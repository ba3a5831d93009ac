/- The walk of FramePuts. -/
import Derived.Test.YtombbepgeimfmaaFrameAlive
import Derived.Test.YtombbepgeimfmaaVintSame
namespace Go.Proofs.Ytombbepgeimfmaa
open Go.ChangeShapes Go.WideShapes Go.ChangeAt Go.RowKit

set_option maxHeartbeats 1000000 in
theorem framePuts_big (a : Option Addr) (len cap : Nat) (w : World) (hl : 5000 < len) (hm : len ≤ maxLen) :
    Calls Try.prog 3 #[.slice a len cap] w fun e w' => e = .returned (.bool true) ∧ Below w.heap.size w w' := by
  unfold maxLen at hm
  go_enter Try.func3, Try.ntmps3
  go_wp2_with fail
  refine (frame_alive w).mono ?_
  rintro e w1 ⟨rfl, hb⟩
  go_wp2
  go_ret
  exact ⟨rfl, hb⟩

set_option maxHeartbeats 1000000 in
theorem framePuts_long (a : Option Addr) (cap : Nat) (b : List Int) (w : World) (hr : Rds w (· < w.heap.size) a (u8s b)) (hl : b.length ≤ 5000) (hn : 4096 < b.length) :
    Calls Try.prog 3 #[.slice a b.length cap] w fun e w' => e = .returned (.bool true) ∧ Below w.heap.size w w' := by
  go_enter Try.func3, Try.ntmps3
  go_wp2_with fail
  refine (frame_alive w).mono ?_
  rintro e w1 ⟨rfl, hb1⟩
  have hr1 := hr.new hb1
  go_wp2_with fail
  refine (lent_any _ a cap b w1 hr1 (by omega)).mono ?_
  rintro e w2 ⟨g, rfl, hg, hbl, hb2⟩
  have hr2 := hr1.new hb2
  have hB2 := below_new hb1 hb2
  clear hr hr1 hb1 hb2
  go_wp2_with fail
  refine (fput_long _ _ _ w2 hn (by unfold maxLen; omega)).mono ?_
  rintro e w3 ⟨rfl, rfl⟩
  go_wp2_with fail
  refine (rfput_long _ _ _ w2 hn (by unfold maxLen; omega)).mono ?_
  rintro e w3 ⟨rfl, rfl⟩
  go_wp2_with fail
  refine (same_yes (fun _ => True) (fun _ => True) none none 0 0 [] w2 Rds.nil Rds.nil (by simp)).mono ?_
  rintro e w3 ⟨rfl, hd⟩
  have hr3 := hd.rds hr2
  have hbl3 := hd.blo hbl
  have hB3 : Below w.heap.size w w3 := hB2.trans (hd.below _)
  clear hr2 hbl hB2 hd
  go_wp2_with fail
  refine (kept_yes _ a cap g b w3 hbl3 hr3 (by omega)).mono ?_
  rintro e w4 ⟨rfl, hd⟩
  go_wp2
  go_ret
  exact ⟨rfl, hB3.trans (hd.below _)⟩

set_option maxHeartbeats 1000000 in
theorem framePuts_yes (a : Option Addr) (cap : Nat) (b : List Int) (w : World) (hr : Rds w (· < w.heap.size) a (u8s b)) (hl : b.length ≤ 4096) (hb : Byt b) :
    Calls Try.prog 3 #[.slice a b.length cap] w fun e w' => e = .returned (.bool true) ∧ Below w.heap.size w w' := by
  have hpl := F.put_len_le (b := b) (by omega)
  go_enter Try.func3, Try.ntmps3
  go_wp2_with fail
  refine (frame_alive w).mono ?_
  rintro e w1 ⟨rfl, hb1⟩
  have hr1 := hr.new hb1
  go_wp2_with fail
  refine (lent_any _ a cap b w1 hr1 (by omega)).mono ?_
  rintro e w2 ⟨g, rfl, hg, hbl, hb2⟩
  have hr2 := hr1.new hb2
  have hB2 := below_new hb1 hb2
  clear hr hr1 hb1 hb2
  go_wp2_with fail
  refine (fput_yes _ _ _ _ b w2 rfl (lent_rds hbl) hl hb).mono ?_
  rintro e w3 ⟨v3, rfl, ⟨A3, c3, rfl, ho3⟩, hb3⟩
  have hr3 := hr2.new hb3
  have hbl3 := hbl.new hb3
  have hB3 := below_new hB2 hb3
  clear hr2 hbl hB2 hb3
  go_wp2_with fail
  refine (rfput_yes _ a _ cap b w3 rfl hr3 hl hb).mono ?_
  rintro e w4 ⟨v4, rfl, ⟨A4, c4, rfl, ho4⟩, hb4⟩
  have hr4 := hr3.new hb4
  have hbl4 := hbl3.new hb4
  have hB4 := below_new hB3 hb4
  have hA3 := (own_rds ho3).new hb4
  have hA4 := own_rds ho4
  clear hr3 hbl3 hB3 hb4 ho3 ho4
  go_wp2_with fail
  refine (same_yes _ _ _ _ _ _ (F.put b) w4 hA3 hA4 (by omega)).mono ?_
  rintro e w5 ⟨rfl, hd⟩
  have hr5 := hd.rds hr4
  have hbl5 := hd.blo hbl4
  have hB5 : Below w.heap.size w w5 := hB4.trans (hd.below _)
  clear hr4 hbl4 hB4 hd hA3 hA4
  go_wp2_with fail
  refine (kept_yes _ a cap g b w5 hbl5 hr5 (by omega)).mono ?_
  rintro e w6 ⟨rfl, hd⟩
  go_wp2
  go_ret
  exact ⟨rfl, hB5.trans (hd.below _)⟩

theorem framePuts_walk (a : Option Addr) (len cap : Nat) (zs : List Int) (w : World) (h : RowIn .u8 w a len cap zs) :
    Calls Try.prog 3 #[.slice a len cap] w fun e w' => e = .returned (.bool true) ∧ Below w.heap.size w w' := by
  have hlen := h.len
  by_cases hl : 5000 < len
  · exact framePuts_big a len cap w hl h.max
  · have hr := h.rds
    have hb := h.byt
    have e : (.slice a len cap : Value) = .slice a (zs.take len).length cap := by rw [hlen.1]
    rw [e]
    by_cases hn : 4096 < (zs.take len).length
    · exact framePuts_long a cap _ w hr (by rw [hlen.1]; omega) hn
    · exact framePuts_yes a cap _ w hr (by omega) hb
end Go.Proofs.Ytombbepgeimfmaa
