/- The walk of CrcFrames. -/
import Derived.Test.YtnibgcgmachhiaaCrcArgs
namespace Go.Proofs.Ytnibgcgmachhiaa
open Go.ChangeShapes Go.WideShapes Go.ChangeAt Go.RowKit

set_option maxHeartbeats 400000 in
theorem crcFrames_big (a b : Option Addr) (len cap len2 cap2 : Nat) (w : World) (hl : 3000 < len ∨ 3000 < len2) (hm : len ≤ maxLen) (hm2 : len2 ≤ maxLen) :
    Calls Try.prog 6 #[.slice a len cap, .slice b len2 cap2] w fun e w' => e = .returned (.bool true) ∧ Below w.heap.size w w' := by
  unfold maxLen at hm hm2
  have HL := Lib.hid hl
  clear hl
  go_enter Try.func6, Try.ntmps6
  go_wp2_with fail
  refine (crc_alive w).mono ?_
  rintro e w1 ⟨rfl, hb⟩
  by_cases h1 : 3000 < len
  · go_wp2
    go_ret
    exact ⟨rfl, hb⟩
  · have h2 : 3000 < len2 := HL.out.resolve_left h1
    go_wp2
    go_ret
    exact ⟨rfl, hb⟩

/-- The four bytes of a sum. -/
def C.four4 (s : Nat) : List Nat := [s % 256, s / 256 % 256, s / 65536 % 256, s / 16777216 % 256]
theorem small_four (s : Nat) : Small (C.four4 s) := by
  intro c hc
  simp [C.four4] at hc
  omega
theorem four_rds (w : World) (s : Nat) (hs : s < 4294967296) (t : TypeId) : Rds (w.alloc (.cells #[.int .u8 ((s : Int) % 256), .int .u8 ((s : Int) / 256 % 256), .int .u8 ((s : Int) / 65536 % 256), .int .u8 ((s : Int) / 16777216)] t)) (fun _ => True) (some ⟨w.heap.size, 0, none⟩) (nby (C.four4 s)) := by
  have h := blit_rds w (C.four4 s) t (0, 0)
  have e : s / 16777216 % 256 = s / 16777216 := by omega
  simp only [C.four4, e] at h ⊢
  simpa using h

set_option maxHeartbeats 1000000 in
theorem whole_any (q : Nat) (hq : 4294967295 = q) (S : Nat → Prop) (a : Option Addr) (cap : Nat) (l : List Nat) (w : World) (hl : l.length ≤ 3000) (hr : Rds w S a (nby l)) (hb : Small l) :
    Calls Try.prog 12 #[.slice a l.length cap] w fun e w' => e = .returned (.int .u32 ((C.tn 32 q ^^^ q : Nat) : Int)) ∧ Below w.heap.size w w' := by
  obtain ⟨i0, hi, hz0, hz1, hz2⟩ := info_parts Try.rowU8
  obtain ⟨s, hs⟩ : ∃ s, s = C.more 0 l := ⟨_, rfl⟩
  have hlt : s < 4294967296 := by rw [hs]; exact C.more_lt (by omega) hb
  have HF := Lib.hid (C.frames q hq l hb)
  have HS := Lib.hid hs
  clear hq hs
  go_enter Try.func12, Try.ntmps12
  go_wp2_with fail
  refine (sum_any _ a cap l w hr (by omega) hb).mono ?_
  rintro e w2 ⟨rfl, rfl⟩
  rw [← HS.out]
  have hown1 : (w.alloc (.cells #[] 5)).ownsRow w.heap.size 5 1 (.slice (some ⟨w.heap.size, 0, none⟩) 0 0) 0 [] := World.ownsRow_lit w #[] 0 (Nat.le_refl _) (by unfold maxLen; omega) rfl
  have hg1 : w.grownBy (w.alloc (.cells #[] 5)) none := World.grownBy_alloc _ _ _
  have hB1 := below_gb hg1
  have hra1 := hr.new (below_gb hg1)
  have hs1 := hg1.size
  go_wp2_with (at_builtin; refine wpList_app _ rfl _ _ 22 rfl w.heap.size 5 i0 (.int .u8 0) 1 Try.underlying22 hi hz0 hz1 hz2 rfl _ _ _ rfl hown1 _ a l.length cap (nby l) rfl (by simp) hra1 (one_byt _) (by unfold maxLen; omega) (by omega) hs1 ?_)
  intro v2 w2 hown2 hg2 _
  have hB2 : Below w.heap.size w w2 := hB1.grown hg2 (by omega) fun k hk => by simp [Value.ownBlock] at hk; omega
  have hs2 := hg2.size
  clear hg2 hown1 hra1 hg1 hr hB1
  go_wp2_with (at_builtin; refine wpList_app _ rfl _ _ 22 rfl w.heap.size 5 i0 (.int .u8 0) 1 Try.underlying22 hi hz0 hz1 hz2 rfl _ _ _ rfl (hown2.alloc _) _ _ 4 4 (nby (C.four4 s)) rfl rfl (four_rds w2 s hlt _) (one_byt _) (by unfold maxLen; omega) (by omega) (by simp; omega) ?_)
  intro v3 w3 hown3 hg3 _
  have hk3 := fun k hk => (hown2.lt k hk).1
  have hB3 : Below w.heap.size w w3 := (hB2.alloc (by omega) _).grown hg3 (by simp; omega) fun k hk => by have := hk3 k hk; omega
  obtain ⟨A3, c3, rfl, _, _⟩ := own_form hown3
  have hr3 : Rds w3 (fun _ => True) A3 (nby (l ++ C.four4 s)) := by
    have := (own_rds hown3).mono (S' := fun _ => True) fun _ _ => trivial
    simpa using this
  clear hown2 hg3 hk3 hown3
  go_wp2_with fail
  refine (sum_at _ A3 _ c3 (l ++ C.four4 s) w3 (by simp [C.four4]) hr3 (by simp [C.four4]; omega) (hb.app (small_four s))).mono ?_
  rintro e w2 ⟨rfl, rfl⟩
  go_wp2
  go_ret
  refine ⟨ret_int ?_, hB3⟩
  rw [← HF.out, HS.out]
  rfl

set_option maxHeartbeats 1000000 in
theorem crcFrames_yes (a b : Option Addr) (cap cap2 : Nat) (l m : List Nat) (w : World) (hl : l.length ≤ 3000) (hm : m.length ≤ 3000) (hr : Rds w (· < w.heap.size) a (nby l)) (hr2 : Rds w (· < w.heap.size) b (nby m)) (hb : Small l) (hb2 : Small m) :
    Calls Try.prog 6 #[.slice a l.length cap, .slice b m.length cap2] w fun e w' => e = .returned (.bool true) ∧ Below w.heap.size w w' := by
  obtain ⟨q, hq⟩ : ∃ q, 4294967295 = q := ⟨_, rfl⟩
  have HQ := Lib.hid hq
  clear hq
  go_enter Try.func6, Try.ntmps6
  go_wp2_with fail
  refine (crc_alive w).mono ?_
  rintro e w1 ⟨rfl, hB⟩
  have hra := hr.new hB
  have hrb := hr2.new hB
  clear hr hr2
  go_wp2_with fail
  refine (whole_any q HQ.out _ a cap l w1 hl hra hb).mono ?_
  rintro e w2 ⟨rfl, hB1⟩
  have hrb2 := hrb.new hB1
  have hB2 := below_new hB hB1
  clear hra hrb hB hB1
  go_wp2_with fail
  refine (whole_any q HQ.out _ b cap2 m w2 hm hrb2 hb2).mono ?_
  rintro e w3 ⟨rfl, hB3⟩
  have hB4 := below_new hB2 hB3
  go_wp2
  go_ret
  exact ⟨rfl, hB4⟩

theorem crcFrames_walk (a : Option Addr) (len cap : Nat) (zs : List Int) (b : Option Addr) (len2 cap2 : Nat) (zs2 : List Int) (w : World) (h : RowIn .u8 w a len cap zs) (h2 : RowIn .u8 w b len2 cap2 zs2) :
    Calls Try.prog 6 #[.slice a len cap, .slice b len2 cap2] w fun e w' => e = .returned (.bool true) ∧ Below w.heap.size w w' := by
  by_cases hl : 3000 < len ∨ 3000 < len2
  · exact crcFrames_big a b len cap len2 cap2 w hl h.max h2.max
  · obtain ⟨l, rfl, hr, hb⟩ := h.nat
    obtain ⟨m, rfl, hr2, hb2⟩ := h2.nat
    exact crcFrames_yes a b cap cap2 l m w (by omega) (by omega) hr hr2 hb hb2
end Go.Proofs.Ytnibgcgmachhiaa
