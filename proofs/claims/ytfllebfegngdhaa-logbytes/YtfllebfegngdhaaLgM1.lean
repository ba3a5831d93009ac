/- Layer 14: the program's Read; its Mend, inside. -/
import Derived.Test.YtfllebfegngdhaaLgW1
import Derived.Deep.RegionHeld3
namespace Go.Proofs.Ytfllebfegngdhaa
set_option linter.unusedVariables false
set_option linter.unusedSimpArgs false
open Go.ChangeShapes Go.WideShapes Go.ChangeAt Go.RowKit Go.Deep

theorem Rows.brd {w : World} {base : Nat} {vs : List Value} {bs : List (List Int)} (h : Rows w base vs bs) : BRd w (fun b => base ≤ b) vs bs :=
  ⟨h.1, fun i v b hv hb => by obtain ⟨A, c, e, hr⟩ := h.2 i v b hv hb; exact ⟨A, c, e, (own_rds hr).mono fun b hb => hb.1⟩⟩
set_option maxRecDepth 100000 in
set_option maxHeartbeats 4000000 in
theorem plread_any {w : World} {fp : Nat → Prop} {g : Nat} {Z : Int} {L : List Int} {us : List Dk.U} (hM : PD w fp g Z L us) (hO : Dk.Ok Z L us) (hB : Lg.By L us) (hl : us.length ≤ 800000000) :
    Calls Try.prog 23 #[.pointer (some ⟨g, 0, none⟩)] w (LogPost (fun b => w.heap.size ≤ b) (F.all (Dk.aft L us)).1 (Lg.torn L us) w) := by
  have HR := Lib.hid (pread_any hM hO (by omega))
  have hlen := hO.last
  have hhi := hO.hi
  have hby := hB.aft
  have HT : Hid (Lg.torn L us = decide ((F.all (Dk.aft L us)).2 < (Dk.aft L us).length)) := Lib.hid rfl
  generalize Lg.torn L us = t at *
  generalize Dk.aft L us = l at *
  have HLen : Hid (l.length ≤ 16384) := Lib.hid (by omega)
  have HBy := Lib.hid hby
  clear hM hO hB hlen hhi hby
  go_enter Try.func23, Try.ntmps23
  go_wp2_with fail
  refine HR.out.mono ?_
  rintro e w1 ⟨A, c, rfl, h1, hb1⟩
  obtain ⟨A', c', e', hc, hr⟩ := h1.form
  injection e' with e1 e2 e3
  subst e1 e3
  have HAl := Lib.hid (all_any _ A l.length c l w1 rfl hr hc (by have := HLen.out; omega) HBy.out)
  clear h1 hr hc HR
  obtain ⟨ln, hln⟩ : ∃ ln : Nat, l.length = ln := ⟨_, rfl⟩
  have HLn := Lib.hid hln
  rw [hln] at HAl ⊢
  clear hln
  go_wp2_with fail
  refine HAl.out.mono ?_
  rintro e w2 ⟨A2, c2, vs, rfl, hown, hrr, hb2⟩
  obtain ⟨q, hq⟩ : ∃ q : Nat, (F.all l).2 = q := ⟨_, rfl⟩
  obtain ⟨N, hN⟩ : ∃ N : Nat, N = vs.length := ⟨_, rfl⟩
  have HN := Lib.hid hN
  rw [← hN] at hown ⊢
  rw [hq] at HT ⊢
  rw [HLn.out] at HT
  have HP : Hid (∃ vs : List Value, N = vs.length ∧ Rds w2 (fun b => w.heap.size ≤ b) A2 vs ∧ BRd w2 (fun b => w.heap.size ≤ b) vs (F.all l).1 ∧ Below w.heap.size w w2) := Lib.hid ⟨vs, hN, (own_rds hown).mono fun b hb => Nat.le_trans hb1.size hb.1, (Rows.brd hrr).mono fun b hb => Nat.le_trans hb1.size hb, below_new hb1 hb2⟩
  clear hq hN hown hrr hb2 hb1 HAl HN HLen HBy HLn
  by_cases hlt : q < ln
  · have ht : t = true := by rw [HT.out]; simpa using hlt
    have hlt2 : (q : Int) < (ln : Int) := by omega
    subst ht
    clear HT
    go_wp2
    go_ret2
    obtain ⟨vs, k1, k2, k3, k4⟩ := HP.out
    exact ⟨A2, N, c2, vs, rfl, k1, k2, k3, k4⟩
  · have ht : t = false := by rw [HT.out]; simpa using hlt
    have hlt2 : ¬ (q : Int) < (ln : Int) := by omega
    subst ht
    clear HT
    go_wp2
    go_ret2
    obtain ⟨vs, k1, k2, k3, k4⟩ := HP.out
    exact ⟨A2, N, c2, vs, rfl, k1, k2, k3, k4⟩
section
variable {fp : Nat → Prop} {w w1 w' : World} {g : Nat} {Z x : Int} {L : List Int} {us : List Dk.U} {e : Ending}
theorem core_lt (h : CorePost x Z L us (fun b => fp b ∧ b < w.heap.size) g w1 e w') : CorePost x Z L us fp g w1 e w' :=
  ⟨h.1, rfl, h.2.2.1.mono fun b hb _ => hb.imp (fun h => h.1) id, h.2.2.2.more fun b hb => .inl hb.1⟩
theorem core_below (hb : Below w.heap.size w w1) (h : CorePost x Z L us fp g w1 e w') : CorePost x Z L us fp g w e w' := ⟨h.1, psk_below hb h.2⟩
theorem core_e0 (h : CorePost 0 Z L us fp g w e w') : e = .returned (.tuple #[]) ∧ CorePost 0 Z L us fp g w (.returned (.tuple #[])) w' := by
  rcases h.1 with ⟨_, rfl⟩ | ⟨h0, _⟩
  · exact ⟨rfl, h⟩
  · exact absurd rfl h0
theorem core_ex (hx : x ≠ 0) (h : CorePost x Z L us fp g w e w') : e = gave x ∧ CorePost x Z L us fp g w (gave x) w' := by
  rcases h.1 with ⟨h0, _⟩ | ⟨_, rfl⟩
  · exact absurd h0 hx
  · exact ⟨rfl, h⟩
end
set_option maxRecDepth 100000 in
set_option maxHeartbeats 4000000 in
theorem mend1_any {w : World} {fp : Nat → Prop} {g : Nat} {Z : Int} {L : List Int} {us : List Dk.U} (hM : PD w fp g Z L us) (hO : Dk.Ok Z L us) (hB : Lg.By L us) (hl : us.length ≤ 800000000)
    (p : Nat) (hp : Blo w p 25 #[.pointer (some ⟨g, 0, none⟩)]) :
    Calls Try.prog 37 #[.pointer (some ⟨p, 0, none⟩)] w (CorePost 0 Z (Lg.mnd L us).1 (Lg.mnd L us).2 fp g w) := by
  have HR := Lib.hid (pread_any hM hO (by omega))
  have hlen := hO.last
  have hhi := hO.hi
  have hby := hB.aft
  have hle := F.all_le (Dk.aft L us)
  have HE : Hid (Lg.mnd L us = if (F.all (Dk.aft L us)).2 < (Dk.aft L us).length then ((Dk.aft L us).take (F.all (Dk.aft L us)).2, []) else (L, us)) := Lib.hid rfl
  have HRp : Hid (∀ (w2 : World) (A : Option Addr) (q c : Nat), Below w.heap.size w w2 → q ≤ (Dk.aft L us).length → Rds w2 (fun b => w.heap.size ≤ b) A (u8s ((Dk.aft L us).take q)) → Calls Try.prog 39 #[.pointer (some ⟨g, 0, none⟩), .slice A q c] w2 (fun e w' => e = .returned (.tuple #[]) ∧ CorePost 0 Z ((Dk.aft L us).take q) [] fp g w (.returned (.tuple #[])) w')) := Lib.hid (fun w2 A q c hb hq hr => by
    have hq' : ((Dk.aft L us).take q).length = q := by rw [List.length_take]; omega
    have := replace_any (hM.lt.new hb) hO hl _ A q c _ hq' hr (fun b h1 _ h2 => by omega) (by omega)
    rw [if_neg (by omega), if_neg (by omega), if_neg (by omega)] at this
    exact this.mono fun e w' h => (core_e0 (core_lt h)).imp id (core_below hb))
  have HM := Lib.hid hM
  have HLen : Hid ((Dk.aft L us).length ≤ 16384) := Lib.hid (by omega)
  have HBy := Lib.hid hby
  have HLe := Lib.hid hle
  have KC : Hid (∀ W, Below w.heap.size w W → W.cell? ⟨p, 0, none⟩ = some (.pointer (some ⟨g, 0, none⟩))) := Lib.hid (fun W h => (var_cell (hp.new h)).1)
  have k0 := KC.out _ (Below.refl _ _)
  clear hM hO hB hlen hhi hby hle hp
  generalize Dk.aft L us = l at *
  go_enter Try.func37, Try.ntmps37
  go_wp2_with fail
  refine HR.out.mono ?_
  rintro e w1 ⟨A, c, rfl, h1, hb1⟩
  obtain ⟨A', c', e', hc, hr⟩ := h1.form
  injection e' with e1 e2 e3
  subst e1 e3
  have HAl := Lib.hid (all_any _ A l.length c l w1 rfl hr hc (by have := HLen.out; omega) HBy.out)
  have HRd := Lib.hid hr
  clear h1 hr HR
  obtain ⟨ln, hln⟩ : ∃ ln : Nat, l.length = ln := ⟨_, rfl⟩
  have HLn := Lib.hid hln
  rw [hln] at HAl hc ⊢
  clear hln
  go_wp2_with fail
  refine HAl.out.mono ?_
  rintro e w2 ⟨A2, c2, vs, rfl, hown, hrr, hb2⟩
  obtain ⟨q, hq⟩ : ∃ q : Nat, (F.all l).2 = q := ⟨_, rfl⟩
  rw [hq] at HE HLe ⊢
  rw [HLn.out] at HE HLe
  have hb02 := below_new hb1 hb2
  have hqn := HLe.out
  have HRp2 : Hid (∀ c W, Below w2.heap.size w2 W → Calls Try.prog 39 #[.pointer (some ⟨g, 0, none⟩), .slice A q c] W (fun e w' => e = .returned (.tuple #[]) ∧ CorePost 0 Z (l.take q) [] fp g w (.returned (.tuple #[])) w')) := Lib.hid (fun c W hW => by
    refine HRp.out W A q c (below_new hb02 hW) (by rw [HLn.out]; exact hqn) ?_
    have := ((HRd.out.new hb2).new hW).take (k := q)
    rw [← List.map_take] at this
    exact this)
  have k2 : w2.drew.cell? ⟨p, 0, none⟩ = some (.pointer (some ⟨g, 0, none⟩)) := KC.out w2 hb02
  have k2' := KC.out w2 hb02
  have HD : Hid (Below w2.heap.size w2 w2.drew) := Lib.hid (below_drewN (Below.refl _ _) 1)
  clear hq hown hrr hb2 hb1 HAl HRd HBy HLen HRp HLe k0
  by_cases hlt : q < ln
  · have HV : Hid (Lg.mnd L us = (l.take q, [])) := Lib.hid (by rw [HE.out, if_pos hlt])
    have hlt2 : (q : Int) < (ln : Int) := by omega
    have hqc : q ≤ c := by omega
    clear HE
    go_wp2_with fail
    go_region_with (first
      | (go_at_call 39; refine (HRp2.out _ _ HD.out).mono ?_; rintro e w3 ⟨rfl, h3⟩))
    all_goals
      go_wp2
      go_end0
      rw [HV.out]
      exact h3
  · have HV : Hid (Lg.mnd L us = (L, us)) := Lib.hid (by rw [HE.out, if_neg hlt])
    have hlt2 : ¬ (q : Int) < (ln : Int) := by omega
    clear HE
    go_wp2
    go_end0
    rw [HV.out]
    exact core_ok (r := .int .i64 0) (psk_none HM.out hb02)
end Go.Proofs.Ytfllebfegngdhaa
