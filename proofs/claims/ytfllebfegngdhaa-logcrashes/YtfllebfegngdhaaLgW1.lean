/- Layer 14: the program's Write, inside. -/
import Derived.Test.YtfllebfegngdhaaLgFr
import Derived.Deep.RegionHeld3
namespace Go.Proofs.Ytfllebfegngdhaa
set_option linter.unusedVariables false
set_option linter.unusedSimpArgs false
open Go.ChangeShapes Go.WideShapes Go.ChangeAt Go.RowKit Go.Deep

/-- A way that ends in giving up, inside a region that draws its order: what is left is an empty region. -/
theorem dead_end {X : Prop} (w : World) (h : X) (_ : wpAny Try.prog .any #[] (fun _ _ _ => True) 0 #[] { tmps := #[], defers := [] } w) : X := h
set_option maxRecDepth 100000 in
set_option maxHeartbeats 4000000 in
theorem write1_any {w : World} {fp : Nat → Prop} {g : Nat} {Z : Int} {L : List Int} {us : List Dk.U} (hM : PD w fp g Z L us) (hO : Dk.Ok Z L us) (hl : us.length ≤ 800000000)
    (S : Nat → Prop) (A : Option Addr) (n c : Nat) (xs : List Int) (hn : xs.length = n) (hr : Rds w S A (u8s xs)) (hx : Byt xs) (hn47 : n ≤ 140737488355328)
    (p q : Nat) (hp : Blo w p 25 #[.pointer (some ⟨g, 0, none⟩)]) (hq : Blo w q 32 #[.slice A n c]) (hfp : ¬ fp p) :
    Calls Try.prog 33 #[.pointer (some ⟨p, 0, none⟩), .pointer (some ⟨q, 0, none⟩)] w (CorePost (Lg.wrt Z L us xs).1 Z (Lg.wrt Z L us xs).2.1 (Lg.wrt Z L us xs).2.2 fp g w) := by
  have hbd : Below w.heap.size w w.drew := below_drewN (Below.refl _ _) 1
  have k0 : w.cell? ⟨p, 0, none⟩ = some (.pointer (some ⟨g, 0, none⟩)) := (var_cell hp).1
  have k1 : w.cell? ⟨q, 0, none⟩ = some (.slice A n c) := (var_cell hq).1
  by_cases h4 : 4096 < xs.length
  · have e : Lg.wrt Z L us xs = (6, L, us) := by unfold Lg.wrt; rw [if_pos h4]
    rw [e]
    have HP := Lib.hid (framed_long A n c w.drew (by omega) (by unfold maxLen; omega))
    have HM := Lib.hid hM
    have HBd := Lib.hid hbd
    have KD : w.drew.cell? ⟨p, 0, none⟩ = some (.pointer (some ⟨g, 0, none⟩)) ∧ w.drew.cell? ⟨q, 0, none⟩ = some (.slice A n c) := ⟨k0, k1⟩
    clear hM e hr hn h4 hp hq hbd
    go_enter Try.func33, Try.ntmps33
    go_wp2_with fail
    go_region_with (first | (go_at_call 35; refine HP.out.mono ?_; rintro e w1 ⟨rfl, rfl⟩; go_simp; refine dead_end w ⟨rfl, core_no (x := 6) (by decide) (psk_none (r := .int .i64 6) HM.out HBd.out)⟩ ?_))
    all_goals trivial
  · have hE : Lg.wrt Z L us xs = if Z < ((Dk.aft L us).length : Int) + (F.put xs).length then (7, L, us) else (0, Dk.aft L us ++ F.put xs, []) := by unfold Lg.wrt; rw [if_neg h4]
    have hpl := F.put_len_le (b := xs) (by omega)
    have HP := Lib.hid (framed_yes S A n c xs w.drew hn (hr.new hbd) (by omega) hx)
    have hML := hM.lt
    have HAp : Hid (∀ (w1 : World) (B : Option Addr) (m d : Nat), Below w.heap.size w w1 → (F.put xs).length = m → w1.ownsRow w.heap.size 5 1 (.slice B m d) m (u8s (F.put xs)) → Calls Try.prog 17 #[.pointer (some ⟨g, 0, none⟩), .slice B m d] w1 (PskPost (.int .i64 (Dk.apE Z L us (F.put xs))) Z L (Dk.apU Z L us (F.put xs)) fp g w1)) := Lib.hid (fun w1 B m d hb hm hown =>
      (pappend_any (hML.new hb) hO (by omega) (fun b => w.heap.size ≤ b) B m d (F.put xs) hm ((own_rds hown).mono fun b hb => hb.1) (fun b hb _ hf => by have := hf.2; omega) (by omega)).mono fun e w' h => ⟨h.1, h.2.1.mono fun b hb _ => hb.imp (fun h => h.1) id, h.2.2.more fun b hb => .inl hb.1⟩)
    have HSy : Hid (∀ (w2 : World) (fq : Nat → Prop), PD w2 fq g Z L (us ++ (F.put xs).map .b) → ((Dk.aft L us).length : Int) + (F.put xs).length ≤ Z → Calls Try.prog 31 #[.pointer (some ⟨g, 0, none⟩)] w2 (PskPost (.int .i64 0) Z (Dk.aft L us ++ F.put xs) [] fq g w2)) := Lib.hid (fun w2 fq hM2 hz => by
      have := psync_any hM2 (hO.bytes _ hz) (by simp; omega)
      rwa [Dk.aft_app, Dk.aft_bytes] at this)
    have HE := Lib.hid hE
    obtain ⟨N, hN⟩ : ∃ N : Nat, (F.put xs).length = N := ⟨_, rfl⟩
    have HN := Lib.hid hN
    have HBd := Lib.hid hbd
    have HPb := Lib.hid hp
    have HFp := Lib.hid hfp
    have KC : Hid (∀ W, Below w.heap.size w W → W.cell? ⟨p, 0, none⟩ = some (.pointer (some ⟨g, 0, none⟩)) ∧ W.cell? ⟨q, 0, none⟩ = some (.slice A n c)) := Lib.hid (fun W h => ⟨(var_cell (hp.new h)).1, (var_cell (hq.new h)).1⟩)
    have KD := KC.out _ HBd.out
    clear hM hML hr hE hn hN hp hq hfp hbd hpl
    by_cases hz : Z < ((Dk.aft L us).length : Int) + (F.put xs).length
    · have hW : Hid (Lg.wrt Z L us xs = (7, L, us)) := Lib.hid (by rw [HE.out, if_pos hz])
      have h1 : Dk.apE Z L us (F.put xs) = 7 := by unfold Dk.apE; rw [if_pos hz]
      have h2 : Dk.apU Z L us (F.put xs) = us := by unfold Dk.apU; rw [if_pos hz]
      rw [h1, h2] at HAp
      rw [hW.out]
      clear hz h1 h2 HE HSy
      go_enter Try.func33, Try.ntmps33
      go_wp2_with fail
      go_region_with (first
        | (go_at_call 35; refine HP.out.mono ?_
           rintro e w1 ⟨B, d, rfl, hown, hb1⟩
           have hb2 := below_new HBd.out hb1
           obtain ⟨k0', k1'⟩ := KC.out _ hb2
           rw [HN.out] at hown ⊢
           have HC := Lib.hid (HAp.out w1 B N d hb2 HN.out (own_monoK hown HBd.out.size)))
        | (go_at_call 17; refine HC.out.mono ?_
           rintro e w2 ⟨rfl, h1, h2⟩)
        | (go_at_call 34; refine (must_no 7 (by decide) _).mono ?_; rintro e w9 ⟨rfl, rfl⟩; go_simp; refine dead_end w ⟨rfl, core_no (x := 7) (by decide) (psk_below (r := .int .i64 7) (e := .returned (.int .i64 7)) hb2 ⟨rfl, h1, h2⟩)⟩ ?_))
      all_goals trivial
    · have hW : Hid (Lg.wrt Z L us xs = (0, Dk.aft L us ++ F.put xs, [])) := Lib.hid (by rw [HE.out, if_neg hz])
      have h1 : Dk.apE Z L us (F.put xs) = 0 := by unfold Dk.apE; rw [if_neg hz]
      have h2 : Dk.apU Z L us (F.put xs) = us ++ (F.put xs).map .b := by unfold Dk.apU; rw [if_neg hz]
      rw [h1, h2] at HAp
      have HZ : Hid (((Dk.aft L us).length : Int) + (F.put xs).length ≤ Z) := Lib.hid (by omega)
      rw [hW.out]
      clear hz h1 h2 HE
      go_enter Try.func33, Try.ntmps33
      go_wp2_with fail
      go_region_with (first
        | (go_at_call 35; refine HP.out.mono ?_
           rintro e w1 ⟨B, d, rfl, hown, hb1⟩
           have hb2 := below_new HBd.out hb1
           obtain ⟨k0', k1'⟩ := KC.out _ hb2
           rw [HN.out] at hown ⊢
           have HC := Lib.hid (HAp.out w1 B N d hb2 HN.out (own_monoK hown HBd.out.size)))
        | (go_at_call 17; refine HC.out.mono ?_
           rintro e w2 ⟨rfl, h1, h2⟩)
        | (go_at_call 34; refine (must_yes _).mono ?_; rintro e w9 ⟨rfl, rfl⟩))
      all_goals
        have k0'' := (var_cell (h2.blo (HPb.out.new hb2) HFp.out)).1
        have HB2 := Lib.hid hb2
        clear hown KD k0 k1 hb1 hb2 HC
        go_wp2_with fail
        refine (HSy.out w2 _ h1 HZ.out).mono ?_
        rintro e w3 ⟨rfl, h4, h5⟩
        go_wp2_with fail
        refine (must_yes _).mono ?_
        rintro e w9 ⟨rfl, rfl⟩
        go_wp2
        go_end0
        exact core_ok (r := .int .i64 0) (psk_below (e := .returned (.int .i64 0)) HB2.out (psk_more (r := .tuple #[]) (e := .returned (.tuple #[])) ⟨rfl, h1, h2⟩ ⟨rfl, h4, h5⟩))

end Go.Proofs.Ytfllebfegngdhaa
