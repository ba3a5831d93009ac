/- The document's own Same of lists of bytes. -/
import Derived.Test.YtfllebfegngdhaaFrameRefAll
namespace Go.Proofs.Ytfllebfegngdhaa
open Go.ChangeShapes Go.WideShapes Go.ChangeAt Go.RowKit

theorem quiet_drew {P : Program} {f : FuncId} {args : Array Value} {w : World} {n : Nat} {v : Value}
    (h : Calls P f args (w.drewN n) fun e w' => e = .returned v ∧ Drew (w.drewN n) w') : Calls P f args (w.drewN n) fun e w'' => e = .returned v ∧ ∃ m, w'' = w.drewN m :=
  h.mono fun _ _ ⟨he, m, hm⟩ => ⟨he, n + m, by rw [hm, World.drewN_drewN]⟩

set_option maxHeartbeats 1000000 in
/-- Two lists of slices that read as the same are the same. -/
theorem lsame_yes (S T : Nat → Prop) (A B : Option Addr) (n c d : Nat) (vs us : List Value) (bs : List (List Int)) (w : World) (hA : Rds w S A vs) (hB : Rds w T B us) (hn : vs.length = n) (hm : us.length = n) (hbs : bs.length = n) (hl : n ≤ 1000000) (hsm : ∀ b ∈ bs, b.length ≤ 1000000)
    (hv : ∀ (i : Nat) v b, vs[i]? = some v → bs[i]? = some b → ∃ A c, v = .slice A b.length c ∧ Rds w (fun _ => True) A (u8s b)) (hu : ∀ (i : Nat) v b, us[i]? = some v → bs[i]? = some b → ∃ A c, v = .slice A b.length c ∧ Rds w (fun _ => True) A (u8s b)) :
    Calls Try.prog 25 #[.slice A n c, .slice B n d] w fun e w' => e = .returned (.bool true) ∧ Drew w w' := by
  go_enter Try.func25, Try.ntmps25
  go_wp2
  go_loopw [13] (fun iv wr => ∃ i : Nat, iv = .int .i64 i ∧ i ≤ n ∧ Drew w wr) (fun iv _ => n - (intOf iv).toNat)
  case atStart => exact ⟨0, rfl, Nat.zero_le _, Drew.refl w⟩
  case round =>
    obtain ⟨i, rfl, hi, hd⟩ := hrel
    by_cases hlt : i < n
    · obtain ⟨a, rfl, _, ha⟩ := (hd.rds hA).at (j := i) (by omega)
      obtain ⟨b, rfl, _, hb⟩ := (hd.rds hB).at (j := i) (by omega)
      obtain ⟨A1, c1, e1, hr1⟩ := hv i vs[i] bs[i] (List.getElem?_eq_getElem _) (List.getElem?_eq_getElem _)
      obtain ⟨A2, c2, e2, hr2⟩ := hu i us[i] bs[i] (List.getElem?_eq_getElem _) (List.getElem?_eq_getElem _)
      rw [e1] at ha
      rw [e2] at hb
      have hbl : bs[i].length ≤ 1000000 := hsm _ (List.getElem_mem _)
      have hr1' := hd.rds hr1
      have hr2' := hd.rds hr2
      have SM := fun k : Nat => same_yes _ _ A1 A2 c1 c2 bs[i] (wr.drewN k) (hr1'.drewN k) (hr2'.drewN k) hbl
      clear e1 e2 hr1 hr2 hv hu
      go_wp2
      go_quiet (first | (go_at_call 26; exact quiet_drew (SM _)))
      go_wp2
      go_roundw
      case rel => exact ⟨i + 1, by go_num, by omega, hd.more _⟩
      case measure => simp [intOf]; omega
    · go_wp2
      go_ret
      exact ⟨rfl, hd⟩
end Go.Proofs.Ytfllebfegngdhaa
