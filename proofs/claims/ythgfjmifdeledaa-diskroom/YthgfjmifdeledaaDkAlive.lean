/- Layer 13: the document's example. -/
import Derived.Test.YthgfjmifdeledaaDkHold
import Derived.Test.YthgfjmifdeledaaDkP
namespace Go.Proofs.Ythgfjmifdeledaa
set_option linter.unusedVariables false
set_option linter.unusedSimpArgs false
open Go.ChangeShapes Go.WideShapes Go.ChangeAt Go.RowKit Go.Deep

theorem DS.room {w0 W W' : World} {g : Nat} {Z : Int} {L : List Int} {us : List Dk.U} (h : DS w0 W g Z L us) (hl : us.length ≤ 900000000) (hb : Below W.heap.size W W') :
    Calls Try.prog 17 #[.pointer (some ⟨g, 0, none⟩)] W' fun e w' => e = .returned (.int .i64 (Z - (Dk.aft L us).length)) ∧ Below W'.heap.size W' w' := by
  obtain ⟨ho, fp, h1, h2, h3⟩ := h
  exact proom_any (h1.keep fun b _ hl => hb.block b hl) ho hl
set_option maxRecDepth 100000 in
/-- Bytes as a string. -/
theorem run_str {W : World} {fp : Nat → Prop} {A : Option Addr} {c : Nat} {xs : List Int} (h : ByR W fp (.slice A xs.length c) xs) :
    (convert 32 9 (.slice A xs.length c)).run Try.prog W = .ok (.string (strOfNums xs)) W := by
  rcases h.own.2 with ⟨e, h0⟩ | ⟨g, cap, cur, e, _, _, hn, _⟩
  · injection e with e1 e2 e3
    subst e1
    have : xs = [] := List.eq_nil_of_length_eq_zero h0
    subst this
    exact run_convert_bytes_nil W 32 5 Try.underlying32 Try.underlying5 _ _ 9 Try.underlying9
  · injection e with e1 e2 e3
    subst e1
    refine run_convert_bytes_arg W 32 5 Try.underlying32 Try.underlying5 g 0 xs.length c xs rfl (fun i hi => ?_) 9 Try.underlying9
    have := World.ownsRow.cells h.own (g := g) rfl i (.int .u8 xs[i]) (by simp [List.getElem?_eq_getElem hi])
    rw [M.addMk] at this
    rw [this, List.getD_eq_getElem?_getD, List.getElem?_eq_getElem hi]
    rfl

set_option maxRecDepth 100000 in
set_option maxHeartbeats 4000000 in
theorem dkalive_any (w : World) : Calls Try.prog 7 #[] w fun e w' => e = .returned (.bool true) ∧ Below w.heap.size w w' := by
  have kc := fun (w : World) (C : Array Value) (n c : Nat) => Lib.run_convert_bytes_const (P := Try.prog) w 32 5 C n c Try.underlying32 Try.underlying5
  go_enter Try.func7, Try.ntmps7
  go_wp2_with fail
  refine (pnew_any 9 w).mono ?_
  intro e w1 h
  unfold PNewPost at h
  rw [if_pos (by decide)] at h
  obtain ⟨g, rfl, h1, h2⟩ := h
  have hD1 : DS w w1 g 9 [] [] := ⟨Dk.Ok.new (by decide) (by decide), fun b => w.heap.size ≤ b ∧ b < w1.heap.size, h1.mono fun b hb hl => ⟨hb, hl⟩, fun b hb => hb, h2⟩
  clear h1 h2
  go_wp2_with fail
  refine (hD1.append (by decide) (b_alloc _ _) _ _ 2 2 [97, 98] rfl (lit_at w1 [97, 98] 5 (2, 3)) (fun b hb _ => .inr (by omega)) (by decide)).mono ?_
  rintro e w2 ⟨rfl, hD2, _⟩
  have e2 : Dk.apU 9 [] [] [97, 98] = [.b 97, .b 98] := rfl
  rw [e2] at hD2
  clear hD1 e2
  go_wp2_with fail
  refine (hD2.sync (by decide) (Below.refl _ _)).mono ?_
  rintro e w3 ⟨rfl, hD3, _⟩
  have e3 : Dk.aft [] [.b 97, .b 98] = [97, 98] := rfl
  rw [e3] at hD3
  clear hD2 e3
  go_wp2_with fail
  refine (hD3.append (by decide) (b_alloc _ _) _ _ 2 2 [99, 100] rfl (lit_at w3 [99, 100] 5 (2, 3)) (fun b hb _ => .inr (by omega)) (by decide)).mono ?_
  rintro e w4 ⟨rfl, hD4, _⟩
  have e4 : Dk.apU 9 [97, 98] [] [99, 100] = [.b 99, .b 100] := rfl
  rw [e4] at hD4
  clear hD3 e4
  go_wp2_with fail
  refine (hD4.crash (by decide) (Below.refl _ _) 1).mono ?_
  rintro e w5 ⟨rfl, hD5, _⟩
  have e5 : Dk.aft [97, 98] (([.b 99, .b 100] : List Dk.U).take (Dk.cut 1 ([.b 99, .b 100] : List Dk.U).length)) = [97, 98, 99] := rfl
  rw [e5] at hD5
  clear hD4 e5
  go_wp2_with fail
  refine (hD5.read (by decide) (Below.refl _ _)).mono ?_
  rintro e w6 ⟨A6, c6, rfl, hR6, hbb⟩
  have hD6 := hD5.new hbb
  clear hbb
  have e6 : Dk.aft [97, 98, 99] [] = [97, 98, 99] := rfl
  rw [e6] at hR6 ⊢
  have s6 : (convert 32 9 (.slice A6 3 c6)).run Try.prog w6 = _ := run_str hR6
  have q6 : strOfNums [97, 98, 99] = ⟨#[97, 98, 99]⟩ := rfl
  rw [q6] at s6
  clear hD5 e6 q6 hR6
  go_wp2_with fail
  refine (hD6.swap (by decide) (b_alloc _ _) _ _ 1 1 [120] rfl (lit_at w6 [120] 5 (1, 2)) (fun b hb _ => .inr (by omega)) (by decide)).mono ?_
  rintro e w7 ⟨rfl, hD7, _⟩
  have e7 : Dk.swU 9 [] [120] = [.s [120]] := rfl
  rw [e7] at hD7
  clear hD6 e7 s6
  go_wp2_with fail
  refine (hD7.crash (by decide) (Below.refl _ _) 0).mono ?_
  rintro e w8 ⟨rfl, hD8, _⟩
  have e8 : Dk.aft [97, 98, 99] (([.s [120]] : List Dk.U).take (Dk.cut 0 ([.s [120]] : List Dk.U).length)) = [97, 98, 99] := rfl
  rw [e8] at hD8
  clear hD7 e8
  go_wp2_with fail
  refine (hD8.read (by decide) (Below.refl _ _)).mono ?_
  rintro e w9 ⟨A9, c9, rfl, hR9, hbb⟩
  have hD9 := hD8.new hbb
  clear hbb
  have e9 : Dk.aft [97, 98, 99] [] = [97, 98, 99] := rfl
  rw [e9] at hR9 ⊢
  have s9 : (convert 32 9 (.slice A9 3 c9)).run Try.prog w9 = _ := run_str hR9
  have q9 : strOfNums [97, 98, 99] = ⟨#[97, 98, 99]⟩ := rfl
  rw [q9] at s9
  clear hD8 e9 q9 hR9
  go_wp2_with fail
  refine (hD9.swap (by decide) (b_alloc _ _) _ _ 1 1 [120] rfl (lit_at w9 [120] 5 (1, 2)) (fun b hb _ => .inr (by omega)) (by decide)).mono ?_
  rintro e wa ⟨rfl, hDa, _⟩
  have ea : Dk.swU 9 [] [120] = [.s [120]] := rfl
  rw [ea] at hDa
  clear hD9 ea s9
  go_wp2_with fail
  refine (hDa.crash (by decide) (Below.refl _ _) 1).mono ?_
  rintro e wb ⟨rfl, hDb, _⟩
  have eb : Dk.aft [97, 98, 99] (([.s [120]] : List Dk.U).take (Dk.cut 1 ([.s [120]] : List Dk.U).length)) = [120] := rfl
  rw [eb] at hDb
  clear hDa eb
  go_wp2_with fail
  refine (hDb.read (by decide) (Below.refl _ _)).mono ?_
  rintro e wc ⟨Ac, cc, rfl, hRc, hbb⟩
  have hDc := hDb.new hbb
  clear hbb
  have ec : Dk.aft [120] [] = [120] := rfl
  rw [ec] at hRc ⊢
  have sc : (convert 32 9 (.slice Ac 1 cc)).run Try.prog wc = _ := run_str hRc
  have qc : strOfNums [120] = ⟨#[120]⟩ := rfl
  rw [qc] at sc
  clear hDb qc hRc
  go_wp2_with fail
  refine (hDc.room (by decide) (Below.refl _ _)).mono ?_
  rintro e wd ⟨rfl, hbb⟩
  have hDd := hDc.new hbb
  clear hbb
  have ed : (9 : Int) - (Dk.aft [120] []).length = 8 := rfl
  rw [ed]
  clear hDc ed ec sc
  go_wp2_with fail
  refine (psync_nil _).mono ?_
  rintro e we ⟨rfl, hbe⟩
  have hDe := hDd.new hbe
  obtain ⟨_, _, _, _, hfin⟩ := hDe
  clear hDd hbe
  go_wp2
  go_ret
  exact ⟨rfl, hfin⟩
end Go.Proofs.Ythgfjmifdeledaa
