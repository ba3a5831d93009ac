/- Contracts of layer 4: Put, the program's and the document's. -/
import Derived.Test.YtfllebfegngdhaaFrameOwn
import Derived.Test.YtfllebfegngdhaaVint
namespace Go.Proofs.Ytfllebfegngdhaa
open Go.ChangeShapes Go.WideShapes Go.ChangeAt Go.RowKit

/-- What Put answers. -/
def FPutP (b : List Int) (w : World) (e : Ending) (w' : World) : Prop :=
  ∃ v, e = .returned (.tuple #[v, .int .i64 0]) ∧ Owns w' w.heap.size v (F.put b) ∧ Below w.heap.size w w'

set_option maxRecDepth 100000 in
set_option maxHeartbeats 1000000 in
theorem fput_long (A : Option Addr) (n c : Nat) (w : World) (hn : 4096 < n) (hm : n ≤ maxLen) :
    Calls Try.prog 52 #[.slice A n c] w fun e w' => e = .returned (.tuple #[.slice none 0 0, .int .i64 6]) ∧ w = w' := by
  unfold maxLen at hm
  go_enter Try.func52, Try.ntmps52
  go_wp2
  go_ret2
  exact ⟨rfl, rfl⟩

set_option maxRecDepth 100000 in
set_option maxHeartbeats 1000000 in
theorem fput_yes (S : Nat → Prop) (A : Option Addr) (n c : Nat) (b : List Int) (w : World) (hn : n = b.length) (hr : Rds w S A (u8s b)) (hl : b.length ≤ 4096) (hb : Byt b) :
    Calls Try.prog 52 #[.slice A n c] w (FPutP b w) := by
  subst hn
  obtain ⟨i0, hi, hz0, hz1, hz2⟩ := info_parts Try.rowU8
  have h6 := V.enc_len6 (n := (b.length : Int)) (by omega)
  have hal := F.ahead_len b
  have hbl := F.ahead_byt hb (by omega)
  have hah : F.ahead b = ([1] ++ V.enc (b.length : Int)) ++ b := by unfold F.ahead; simp
  obtain ⟨H, hH⟩ : ∃ H, H = [1] ++ V.enc (b.length : Int) := ⟨_, rfl⟩
  have hHl : H.length ≤ 7 := by rw [hH]; simp; omega
  rw [← hH] at hah
  have HH := Lib.hid hH
  have HA := Lib.hid hah
  have HB := Lib.hid hbl
  have HAL := Lib.hid hal
  clear hH hah hbl hal h6
  go_enter Try.func52, Try.ntmps52
  go_wp2_with fail
  refine (put_yes (fun _ => True) _ _ [1] (b.length : Int) _ (lit_rds w [1] .u8 5) (by simp) (by omega) (by omega)).mono ?_
  rintro e w1 ⟨A1, c1, rfl, hown1, hb1⟩
  rw [← HH.out] at hown1 ⊢
  have hB1 : Below w.heap.size w w1 := below_new ((Below.refl _ _).alloc (Nat.le_refl _) _) hb1
  have hown1' := own_mono hown1 (base' := w.heap.size) (by simp)
  have hr1 := hr.old.new hB1
  have hs1 := hB1.size
  clear hown1 hb1 hr
  go_wp2_with (at_builtin; refine wpList_app _ rfl _ _ 32 rfl w.heap.size 5 i0 (.int .u8 0) 1 Try.underlying32 hi hz0 hz1 hz2 rfl _ _ _ rfl hown1' (fun k => S k ∧ k < w.heap.size) A b.length c (u8s b) rfl (by simp) hr1 (one_ints _ _) (by unfold maxLen; omega) (by omega) hs1 ?_)
  intro v2 w2 hown2 hg2 _
  have hB2 : Below w.heap.size w w2 := hB1.grown hg2 hs1 fun k hk => (hown1'.lt k hk).1
  have hs2 := hB2.size
  obtain ⟨A2, c2, rfl, _, _⟩ := own_form hown2
  have hMl : H.length + b.length = (F.ahead b).length := by rw [HA.out, List.length_append]
  have hMs : u8s H ++ u8s b = u8s (F.ahead b) := by rw [HA.out]; simp
  rw [hMs] at hown2
  obtain ⟨m, hm⟩ : ∃ m, m = H.length + b.length := ⟨_, rfl⟩
  rw [← hm] at hown2 hMl ⊢
  have hm' : m ≤ 4103 := by omega
  have hSM := sum_i _ A2 m c2 (F.ahead b) w2 hMl (own_rds hown2) (by omega) HB.out
  obtain ⟨sm, hsm⟩ : ∃ sm, sm = F.sum (F.ahead b) := ⟨_, rfl⟩
  have hs32 := F.sum_lt HB.out
  rw [← hsm] at hSM hs32
  have HS := Lib.hid hsm
  have HML := Lib.hid hMl
  clear hsm hm hMl hg2 hr1 hB1 hown1' hs1
  go_wp2_with fail
  refine hSM.mono ?_
  rintro e w3 ⟨rfl, rfl⟩
  clear hSM
  have hZ : [(sm : Int) / 16777216, (sm : Int) / 65536 % 256, (sm : Int) / 256 % 256, (sm : Int) % 256] = F.four (F.sum (F.ahead b)) := by
    rw [← HS.out]
    unfold F.four
    congr 1
    omega
  have HZ := Lib.hid hZ
  have hown3 := hown2.alloc (.cells (u8s [(sm : Int) / 16777216, (sm : Int) / 65536 % 256, (sm : Int) / 256 % 256, (sm : Int) % 256]).toArray 5)
  have hB3 := hB2.alloc hs2 (.cells (u8s [(sm : Int) / 16777216, (sm : Int) / 65536 % 256, (sm : Int) / 256 % 256, (sm : Int) % 256]).toArray 5)
  have hs3 := hB3.size
  clear hZ hMs
  go_wp2_with (at_builtin; refine wpList_app _ rfl _ _ 32 rfl w.heap.size 5 i0 (.int .u8 0) 1 Try.underlying32 hi hz0 hz1 hz2 rfl _ _ _ rfl hown3 (fun _ => True) _ 4 4 (u8s [(sm : Int) / 16777216, (sm : Int) / 65536 % 256, (sm : Int) / 256 % 256, (sm : Int) % 256]) rfl rfl (lit_rds w2 _ .u8 5) (one_ints _ _) (by unfold maxLen; omega) (by omega) hs3 ?_)
  intro v4 w4 hown4 hg4 _
  have hB4 : Below w.heap.size w w4 := hB3.grown hg4 hs3 fun k hk => (hown3.lt k hk).1
  obtain ⟨A4, c4, rfl, _, _⟩ := own_form hown4
  have hpl : m + 4 = (F.put b).length := by rw [HML.out]; unfold F.put; rw [List.length_append]; rfl
  have hps : u8s (F.ahead b) ++ u8s [(sm : Int) / 16777216, (sm : Int) / 65536 % 256, (sm : Int) / 256 % 256, (sm : Int) % 256] = u8s (F.put b) := by rw [HZ.out]; unfold F.put; simp
  have hown5 : w4.ownsRow w.heap.size 5 1 (.slice A4 (m + 4) c4) (m + 4) (u8s (F.put b)) := by rw [← hps]; exact hown4
  have HPL := Lib.hid hpl
  clear hpl hps hg4 hown3 hB3 hs3 hown2 hB2 hown4
  go_wp2
  go_ret2
  refine ⟨_, rfl, ⟨A4, c4, ?_, ?_⟩, hB4⟩
  · rw [← HPL.out]; rfl
  · rw [← HPL.out]; exact hown5
set_option maxRecDepth 100000 in
set_option maxHeartbeats 1000000 in
theorem rfput_long (A : Option Addr) (n c : Nat) (w : World) (hn : 4096 < n) (hm : n ≤ maxLen) :
    Calls Try.prog 29 #[.slice A n c] w fun e w' => e = .returned (.tuple #[.slice none 0 0, .int .i64 6]) ∧ w = w' := by
  unfold maxLen at hm
  go_enter Try.func29, Try.ntmps29
  go_wp2
  go_ret2
  exact ⟨rfl, rfl⟩

set_option maxRecDepth 100000 in
set_option maxHeartbeats 1000000 in
theorem rfput_yes (S : Nat → Prop) (A : Option Addr) (n c : Nat) (b : List Int) (w : World) (hn : n = b.length) (hr : Rds w S A (u8s b)) (hl : b.length ≤ 4096) (hb : Byt b) :
    Calls Try.prog 29 #[.slice A n c] w (FPutP b w) := by
  subst hn
  obtain ⟨i0, hi, hz0, hz1, hz2⟩ := info_parts Try.rowU8
  have h6 := V.enc_len6 (n := (b.length : Int)) (by omega)
  have hal := F.ahead_len b
  have hbl := F.ahead_byt hb (by omega)
  have hah : F.ahead b = ([1] ++ V.enc (b.length : Int)) ++ b := by unfold F.ahead; simp
  obtain ⟨H, hH⟩ : ∃ H, H = [1] ++ V.enc (b.length : Int) := ⟨_, rfl⟩
  have hHl : H.length ≤ 7 := by rw [hH]; simp; omega
  rw [← hH] at hah
  have HH := Lib.hid hH
  have HA := Lib.hid hah
  have HB := Lib.hid hbl
  have HAL := Lib.hid hal
  clear hH hah hbl hal h6
  go_enter Try.func29, Try.ntmps29
  go_wp2_with fail
  refine (rput_yes (fun _ => True) _ _ [1] (b.length : Int) _ (lit_rds w [1] .u8 5) (by simp) (by omega) (by omega)).mono ?_
  rintro e w1 ⟨A1, c1, rfl, hown1, hb1⟩
  rw [← HH.out] at hown1 ⊢
  have hB1 : Below w.heap.size w w1 := below_new ((Below.refl _ _).alloc (Nat.le_refl _) _) hb1
  have hown1' := own_mono hown1 (base' := w.heap.size) (by simp)
  have hr1 := hr.old.new hB1
  have hs1 := hB1.size
  clear hown1 hb1 hr
  go_wp2_with (at_builtin; refine wpList_app _ rfl _ _ 32 rfl w.heap.size 5 i0 (.int .u8 0) 1 Try.underlying32 hi hz0 hz1 hz2 rfl _ _ _ rfl hown1' (fun k => S k ∧ k < w.heap.size) A b.length c (u8s b) rfl (by simp) hr1 (one_ints _ _) (by unfold maxLen; omega) (by omega) hs1 ?_)
  intro v2 w2 hown2 hg2 _
  have hB2 : Below w.heap.size w w2 := hB1.grown hg2 hs1 fun k hk => (hown1'.lt k hk).1
  have hs2 := hB2.size
  obtain ⟨A2, c2, rfl, _, _⟩ := own_form hown2
  have hMl : H.length + b.length = (F.ahead b).length := by rw [HA.out, List.length_append]
  have hMs : u8s H ++ u8s b = u8s (F.ahead b) := by rw [HA.out]; simp
  rw [hMs] at hown2
  obtain ⟨m, hm⟩ : ∃ m, m = H.length + b.length := ⟨_, rfl⟩
  rw [← hm] at hown2 hMl ⊢
  have hm' : m ≤ 4103 := by omega
  have hSM := rsum_i _ A2 m c2 (F.ahead b) w2 hMl (own_rds hown2) (by omega) HB.out
  obtain ⟨sm, hsm⟩ : ∃ sm, sm = F.sum (F.ahead b) := ⟨_, rfl⟩
  have hs32 := F.sum_lt HB.out
  rw [← hsm] at hSM hs32
  have HS := Lib.hid hsm
  have HML := Lib.hid hMl
  clear hsm hm hMl hg2 hr1 hB1 hown1' hs1
  go_wp2_with fail
  refine hSM.mono ?_
  rintro e w3 ⟨rfl, rfl⟩
  clear hSM
  have hZ : [(sm : Int) / 16777216, (sm : Int) / 65536 % 256, (sm : Int) / 256 % 256, (sm : Int) % 256] = F.four (F.sum (F.ahead b)) := by
    rw [← HS.out]
    unfold F.four
    congr 1
    omega
  have HZ := Lib.hid hZ
  have hown3 := hown2.alloc (.cells (u8s [(sm : Int) / 16777216, (sm : Int) / 65536 % 256, (sm : Int) / 256 % 256, (sm : Int) % 256]).toArray 5)
  have hB3 := hB2.alloc hs2 (.cells (u8s [(sm : Int) / 16777216, (sm : Int) / 65536 % 256, (sm : Int) / 256 % 256, (sm : Int) % 256]).toArray 5)
  have hs3 := hB3.size
  clear hZ hMs
  go_wp2_with (at_builtin; refine wpList_app _ rfl _ _ 32 rfl w.heap.size 5 i0 (.int .u8 0) 1 Try.underlying32 hi hz0 hz1 hz2 rfl _ _ _ rfl hown3 (fun _ => True) _ 4 4 (u8s [(sm : Int) / 16777216, (sm : Int) / 65536 % 256, (sm : Int) / 256 % 256, (sm : Int) % 256]) rfl rfl (lit_rds w2 _ .u8 5) (one_ints _ _) (by unfold maxLen; omega) (by omega) hs3 ?_)
  intro v4 w4 hown4 hg4 _
  have hB4 : Below w.heap.size w w4 := hB3.grown hg4 hs3 fun k hk => (hown3.lt k hk).1
  obtain ⟨A4, c4, rfl, _, _⟩ := own_form hown4
  have hpl : m + 4 = (F.put b).length := by rw [HML.out]; unfold F.put; rw [List.length_append]; rfl
  have hps : u8s (F.ahead b) ++ u8s [(sm : Int) / 16777216, (sm : Int) / 65536 % 256, (sm : Int) / 256 % 256, (sm : Int) % 256] = u8s (F.put b) := by rw [HZ.out]; unfold F.put; simp
  have hown5 : w4.ownsRow w.heap.size 5 1 (.slice A4 (m + 4) c4) (m + 4) (u8s (F.put b)) := by rw [← hps]; exact hown4
  have HPL := Lib.hid hpl
  clear hpl hps hg4 hown3 hB3 hs3 hown2 hB2 hown4
  go_wp2
  go_ret2
  refine ⟨_, rfl, ⟨A4, c4, ?_, ?_⟩, hB4⟩
  · rw [← HPL.out]; rfl
  · rw [← HPL.out]; exact hown5
end Go.Proofs.Ytfllebfegngdhaa
