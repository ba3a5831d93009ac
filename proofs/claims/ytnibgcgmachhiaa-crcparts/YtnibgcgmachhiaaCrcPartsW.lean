/- The walk of CrcParts. -/
import Derived.Test.YtnibgcgmachhiaaCrcArgs
namespace Go.Proofs.Ytnibgcgmachhiaa
open Go.ChangeShapes Go.WideShapes Go.ChangeAt Go.RowKit

set_option maxHeartbeats 400000 in
theorem crcParts_big (a b : Option Addr) (len cap len2 cap2 : Nat) (w : World) (hl : 3000 < len ∨ 3000 < len2) (hm : len ≤ maxLen) (hm2 : len2 ≤ maxLen) :
    Calls Try.prog 4 #[.slice a len cap, .slice b len2 cap2] w fun e w' => e = .returned (.bool true) ∧ Below w.heap.size w w' := by
  unfold maxLen at hm hm2
  have HL := Lib.hid hl
  clear hl
  go_enter Try.func4, Try.ntmps4
  go_wp2_with fail
  refine (crc_alive w).mono ?_
  rintro e w1 ⟨rfl, hb⟩
  by_cases h1 : 3000 < len
  · go_wp2
    go_ret
    exact ⟨rfl, hb⟩
  · have h2 : 3000 < len2 := HL.out.resolve_left h1
    go_wp2
    go_ret
    exact ⟨rfl, hb⟩

set_option maxHeartbeats 1000000 in
theorem crcParts_yes (a b : Option Addr) (cap cap2 : Nat) (l m : List Nat) (w : World) (hl : l.length ≤ 3000) (hm : m.length ≤ 3000) (hr : Rds w (· < w.heap.size) a (nby l)) (hr2 : Rds w (· < w.heap.size) b (nby m)) (hb : Small l) (hb2 : Small m) :
    Calls Try.prog 4 #[.slice a l.length cap, .slice b m.length cap2] w fun e w' => e = .returned (.bool true) ∧ Below w.heap.size w w' := by
  obtain ⟨i0, hi, hz0, hz1, hz2⟩ := info_parts Try.rowU8
  have hlt : C.more 0 l < 4294967296 := C.more_lt (by omega) hb
  go_enter Try.func4, Try.ntmps4
  go_wp2_with fail
  refine (crc_alive w).mono ?_
  rintro e w1 ⟨rfl, hB⟩
  have hra := hr.new hB
  have hrb := hr2.new hB
  clear hr hr2
  go_wp2_with fail
  refine (sum_any _ a cap l w1 hra (by omega) hb).mono ?_
  rintro e w2 ⟨rfl, rfl⟩
  go_wp2_with fail
  refine (more_any _ b cap2 m _ hlt w1 hrb (by omega) hb2).mono ?_
  rintro e w2 ⟨rfl, rfl⟩
  have hown1 : (w1.alloc (.cells #[] 5)).ownsRow w1.heap.size 5 1 (.slice (some ⟨w1.heap.size, 0, none⟩) 0 0) 0 [] := World.ownsRow_lit w1 #[] 0 (Nat.le_refl _) (by unfold maxLen; omega) rfl
  have hg1 : w1.grownBy (w1.alloc (.cells #[] 5)) none := World.grownBy_alloc _ _ _
  have hB1 := below_new hB (below_gb hg1)
  have hra1 := hra.new (below_gb hg1)
  have hrb1 := hrb.new (below_gb hg1)
  have hs1 := hg1.size
  have hs0 := hB.size
  go_wp2_with (at_builtin; refine wpList_app _ rfl _ _ 22 rfl w1.heap.size 5 i0 (.int .u8 0) 1 Try.underlying22 hi hz0 hz1 hz2 rfl _ _ _ rfl hown1 _ a l.length cap (nby l) rfl (by simp) hra1 (one_byt _) (by unfold maxLen; omega) (by omega) hs1 ?_)
  intro v2 w2 hown2 hg2 _
  have hB2 : Below w.heap.size w w2 := hB1.grown hg2 (by omega) fun k hk => by simp [Value.ownBlock] at hk; omega
  have hrb2 := hrb1.grown hg2 (fun k hk _ e => by simp [Value.ownBlock] at e; omega)
  have hra2 := hra1.grown hg2 (fun k hk _ e => by simp [Value.ownBlock] at e; omega)
  have hs2 := hg2.size
  clear hg2 hown1 hra1 hrb1 hg1 hra hrb
  go_wp2_with (at_builtin; refine wpList_app _ rfl _ _ 22 rfl w1.heap.size 5 i0 (.int .u8 0) 1 Try.underlying22 hi hz0 hz1 hz2 rfl _ _ _ rfl hown2 _ b m.length cap2 (nby m) rfl (by simp) hrb2 (one_byt _) (by unfold maxLen; omega) (by omega) (by omega) ?_)
  intro v3 w3 hown3 hg3 _
  have hk3 := fun k hk => (hown2.lt k hk).1
  have hB3 : Below w.heap.size w w3 := hB2.grown hg3 (by omega) fun k hk => by have := hk3 k hk; omega
  have hra3 := hra2.grown hg3 (fun k hk _ e => by have := hk3 k e.symm; omega)
  obtain ⟨A3, c3, rfl, _, _⟩ := own_form hown3
  have hr3 : Rds w3 (fun _ => True) A3 (nby (l ++ m)) := by
    have := (own_rds hown3).mono (S' := fun _ => True) fun _ _ => trivial
    simpa using this
  clear hown2 hg3 hk3 hrb2 hra2 hown3
  go_wp2_with fail
  refine (sum_at _ A3 _ c3 (l ++ m) w3 (by simp) hr3 (by simp; omega) (hb.app hb2)).mono ?_
  rintro e w2 ⟨rfl, rfl⟩
  rw [C.more_app]
  go_wp2_with fail
  refine (more_any (fun _ => True) none 0 [] _ hlt w3 Rds.nil (by simp) (fun c hc => by simp at hc)).mono ?_
  rintro e w2 ⟨rfl, rfl⟩
  rw [C.more_nil]
  go_wp2_with fail
  refine (more_any _ a cap l 0 (by omega) w3 hra3 (by omega) hb).mono ?_
  rintro e w2 ⟨rfl, rfl⟩
  go_wp2
  go_ret
  exact ⟨rfl, hB3⟩

theorem crcParts_walk (a : Option Addr) (len cap : Nat) (zs : List Int) (b : Option Addr) (len2 cap2 : Nat) (zs2 : List Int) (w : World) (h : RowIn .u8 w a len cap zs) (h2 : RowIn .u8 w b len2 cap2 zs2) :
    Calls Try.prog 4 #[.slice a len cap, .slice b len2 cap2] w fun e w' => e = .returned (.bool true) ∧ Below w.heap.size w w' := by
  by_cases hl : 3000 < len ∨ 3000 < len2
  · exact crcParts_big a b len cap len2 cap2 w hl h.max h2.max
  · obtain ⟨l, rfl, hr, hb⟩ := h.nat
    obtain ⟨m, rfl, hr2, hb2⟩ := h2.nat
    exact crcParts_yes a b cap cap2 l m w (by omega) (by omega) hr hr2 hb hb2
end Go.Proofs.Ytnibgcgmachhiaa
