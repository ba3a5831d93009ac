/- Layer 14: the program's Write, Read, Mend, Rewrite. -/
import Derived.Test.YtfllebfegngdhaaLgM1
import Derived.Deep.RegionHeld3
namespace Go.Proofs.Ytfllebfegngdhaa
set_option linter.unusedVariables false
set_option linter.unusedSimpArgs false
open Go.ChangeShapes Go.WideShapes Go.ChangeAt Go.RowKit Go.Deep

set_option maxRecDepth 100000 in
set_option maxHeartbeats 4000000 in
theorem rewrite1_any {w : World} {fp : Nat → Prop} {g : Nat} {Z : Int} {L : List Int} {us : List Dk.U} (hM : PD w fp g Z L us) (hO : Dk.Ok Z L us) (hl : us.length ≤ 800000000)
    (S : Nat → Prop) (A : Option Addr) (n c : Nat) (vs : List Value) (bs : List (List Int)) (hn : bs.length = n) (hn6 : n ≤ 1000000) (hr : Rds w S A vs) (hb : BRd w S vs bs) (hx : ∀ b ∈ bs, b.length ≤ 140737488355328 ∧ Byt b)
    (p q : Nat) (hp : Blo w p 25 #[.pointer (some ⟨g, 0, none⟩)]) (hq : Blo w q 33 #[.slice A n c]) :
    Calls Try.prog 41 #[.pointer (some ⟨p, 0, none⟩), .pointer (some ⟨q, 0, none⟩)] w (CorePost (Lg.rwr Z L us bs).1 Z (Lg.rwr Z L us bs).2.1 (Lg.rwr Z L us bs).2.2 fp g w) := by
  have HE : Hid (Lg.rwr Z L us bs = if Lg.fit bs = true then if Z < ((F.cat bs).length : Int) then (7, L, us) else (0, F.cat bs, []) else (6, L, us)) := Lib.hid rfl
  have hbd : Below w.heap.size w w.drew := below_drewN (Below.refl _ _) 1
  have k0 : w.cell? ⟨p, 0, none⟩ = some (.pointer (some ⟨g, 0, none⟩)) := (var_cell hp).1
  have k1 : w.cell? ⟨q, 0, none⟩ = some (.slice A n c) := (var_cell hq).1
  have HP := Lib.hid (frames_any (w := w.drew) S A n c vs bs hn hn6 (hr.new hbd) (hb.new hbd) hx)
  have HBd := Lib.hid hbd
  have hhi := hO.hi
  have KC : Hid (∀ W, Below w.heap.size w W → W.cell? ⟨p, 0, none⟩ = some (.pointer (some ⟨g, 0, none⟩))) := Lib.hid (fun W h => (var_cell (hp.new h)).1)
  have HRp : Hid (∀ (W : World) (A : Option Addr) (c : Nat) (ys : List Int), Below w.heap.size w W → ys.length ≤ 20491 → W.ownsRow w.heap.size 5 1 (.slice A ys.length c) ys.length (u8s ys) → Calls Try.prog 39 #[.pointer (some ⟨g, 0, none⟩), .slice A ys.length c] W (CorePost (if Z < (ys.length : Int) then 7 else 0) Z (if Z < (ys.length : Int) then L else ys) (if Z < (ys.length : Int) then us else []) fp g w)) := Lib.hid (fun W A c ys hb hy ho =>
    (replace_any (hM.lt.new hb) hO hl (fun b => w.heap.size ≤ b) A ys.length c ys rfl ((own_rds ho).mono fun b hb => hb.1) (fun b h1 _ h2 => by omega) (by omega)).mono fun e w' h => core_below hb (core_lt h))
  have HM := Lib.hid hM
  clear hM hO hl hn hr hb hx hp hq hbd
  by_cases hf : Lg.fit bs = true
  · by_cases hz : Z < ((F.cat bs).length : Int)
    · have HV : Hid (Lg.rwr Z L us bs = (7, L, us)) := Lib.hid (by rw [HE.out, if_pos hf, if_pos hz])
      have HP2 : Hid (Calls Try.prog 42 #[.slice A n c] w.drew (fun e w' => ∃ A c m, e = .returned (.slice A m c) ∧ Below w.heap.size w w' ∧ Calls Try.prog 39 #[.pointer (some ⟨g, 0, none⟩), .slice A m c] w' (fun e w' => e = gave 7 ∧ CorePost 7 Z L us fp g w (gave 7) w'))) := Lib.hid (HP.out.mono fun e w' h => by
        rcases h with ⟨_, A, c, ys, rfl, h1, h2, h3⟩ | ⟨h, _, _⟩
        · have hb2 := below_new HBd.out h3
          refine ⟨A, c, ys.length, rfl, hb2, ?_⟩
          have hzy : Z < (ys.length : Int) := by
            rcases Nat.lt_or_ge 16384 (F.cat bs).length with h' | h'
            · have := h2.big h'; omega
            · rw [h2.all h']; exact hz
          have := HRp.out w' A c ys hb2 h2.len (own_monoK h1 HBd.out.size)
          rw [if_pos hzy, if_pos hzy, if_pos hzy] at this
          exact this.mono fun e w' h => core_ex (by decide) h
        · rw [hf] at h; cases h)
      rw [HV.out]
      clear hz HE HRp hf HP hhi
      go_enter Try.func41, Try.ntmps41
      go_wp2_with fail
      go_region_with (first
        | (go_at_call 42; refine HP2.out.mono ?_
           rintro e w1 ⟨A1, c1, m1, rfl, hb2, h3⟩
           have k0' := KC.out _ hb2
           have HC := Lib.hid h3
           clear h3)
        | (go_at_call 39; refine HC.out.mono ?_; rintro e w2 ⟨rfl, h4⟩; go_simp; refine dead_end w ⟨rfl, h4⟩ ?_))
      all_goals trivial
    · have HV : Hid (Lg.rwr Z L us bs = (0, F.cat bs, [])) := Lib.hid (by rw [HE.out, if_pos hf, if_neg hz])
      have HP2 : Hid (Calls Try.prog 42 #[.slice A n c] w.drew (fun e w' => ∃ A c m, e = .returned (.slice A m c) ∧ Below w.heap.size w w' ∧ Calls Try.prog 39 #[.pointer (some ⟨g, 0, none⟩), .slice A m c] w' (fun e w' => e = .returned (.tuple #[]) ∧ CorePost 0 Z (F.cat bs) [] fp g w (.returned (.tuple #[])) w'))) := Lib.hid (HP.out.mono fun e w' h => by
        rcases h with ⟨_, A, c, ys, rfl, h1, h2, h3⟩ | ⟨h, _, _⟩
        · have hb2 := below_new HBd.out h3
          refine ⟨A, c, ys.length, rfl, hb2, ?_⟩
          have hy : ys = F.cat bs := h2.all (by omega)
          have := HRp.out w' A c ys hb2 h2.len (own_monoK h1 HBd.out.size)
          rw [hy, if_neg hz, if_neg hz, if_neg hz] at this
          rw [hy]
          exact this.mono fun e w' h => core_e0 h
        · rw [hf] at h; cases h)
      rw [HV.out]
      clear hz HE HRp hf HP hhi
      go_enter Try.func41, Try.ntmps41
      go_wp2_with fail
      go_region_with (first
        | (go_at_call 42; refine HP2.out.mono ?_
           rintro e w1 ⟨A1, c1, m1, rfl, hb2, h3⟩
           have k0' := KC.out _ hb2
           have HC := Lib.hid h3
           clear h3)
        | (go_at_call 39; refine HC.out.mono ?_; rintro e w2 ⟨rfl, h4⟩))
      all_goals
        go_wp2
        go_end0
        exact h4
  · have HV : Hid (Lg.rwr Z L us bs = (6, L, us)) := Lib.hid (by rw [HE.out, if_neg hf])
    have HP2 : Hid (Calls Try.prog 42 #[.slice A n c] w.drew (fun e w' => e = gave 6 ∧ CorePost 6 Z L us fp g w (gave 6) w')) := Lib.hid (HP.out.mono fun e w' h => by
      rcases h with ⟨h, _⟩ | ⟨_, rfl, h3⟩
      · exact absurd h hf
      · exact ⟨rfl, core_no (by decide) (psk_none (r := .int .i64 6) HM.out (below_new HBd.out h3))⟩)
    rw [HV.out]
    clear HE HRp hf HP hhi
    go_enter Try.func41, Try.ntmps41
    go_wp2_with fail
    go_region_with (first
      | (go_at_call 42; refine HP2.out.mono ?_; rintro e w1 ⟨rfl, h4⟩; go_simp; refine dead_end w ⟨rfl, h4⟩ ?_))
    all_goals trivial

set_option maxRecDepth 100000 in
set_option maxHeartbeats 4000000 in
theorem plwrite_any {w : World} {fp : Nat → Prop} {g : Nat} {Z : Int} {L : List Int} {us : List Dk.U} (hM : PD w fp g Z L us) (hO : Dk.Ok Z L us) (hl : us.length ≤ 800000000)
    (S : Nat → Prop) (A : Option Addr) (n c : Nat) (xs : List Int) (hn : xs.length = n) (hr : Rds w S A (u8s xs)) (hx : Byt xs) (hn47 : n ≤ 140737488355328) :
    Calls Try.prog 11 #[.pointer (some ⟨g, 0, none⟩), .slice A n c] w (PskPost (.int .i64 (Lg.wrt Z L us xs).1) Z (Lg.wrt Z L us xs).2.1 (Lg.wrt Z L us xs).2.2 fp g w) := by
  obtain ⟨w2, hw2⟩ : ∃ W, (w.alloc (.cells #[.pointer (some ⟨g, 0, none⟩)] 25)).alloc (.cells #[.slice A n c] 32) = W := ⟨_, rfl⟩
  have hb : Below w.heap.size w w2 := by rw [← hw2]; exact below_new (b_alloc _ _) (b_alloc _ _)
  have hs2 : w2.heap.size = w.heap.size + 1 + 1 := by rw [← hw2]; simp
  have h1 : Blo w2 w.heap.size 25 #[.pointer (some ⟨g, 0, none⟩)] := by rw [← hw2]; exact (Blo.made _ _ _).new (b_alloc _ _)
  have h2 : Blo w2 (w.heap.size + 1) 32 #[.slice A n c] := by
    have := Blo.made (w.alloc (.cells #[.pointer (some ⟨g, 0, none⟩)] 25)) 32 #[.slice A n c]
    rw [hw2] at this
    simpa using this
  have HF := Lib.hid (lface_w (w := w2) (fp := fun b => fp b ∧ b < w.heap.size) w.heap.size (w.heap.size + 1) fun o => write1_any ((((hM.lt).new hb).lt).new (b_alloc _ o)) hO hl S A n c xs hn ((hr.new hb).new (b_alloc _ o)) hx hn47 w.heap.size (w.heap.size + 1) (h1.new (b_alloc _ o)) (h2.new (b_alloc _ o)) (fun h => absurd h.1.2 (Nat.lt_irrefl _)))
  have HB := Lib.hid hb
  have HW := Lib.hid hw2
  clear hM hr hb h1 h2 hs2 hw2
  go_enter Try.func11, Try.ntmps11
  go_wp2_with fail
  rw [HW.out]
  refine HF.out.mono ?_
  rintro e w3 ⟨rfl, h3, h4⟩
  go_wp2
  go_ret
  exact psk_below (e := .returned (.int .i64 _)) HB.out ⟨rfl, h3.mono fun b hb _ => hb.imp (fun h => h.1) id, h4.more fun b hb => .inl hb.1⟩
set_option maxRecDepth 100000 in
set_option maxHeartbeats 4000000 in
theorem plmend_any {w : World} {fp : Nat → Prop} {g : Nat} {Z : Int} {L : List Int} {us : List Dk.U} (hM : PD w fp g Z L us) (hO : Dk.Ok Z L us) (hB : Lg.By L us) (hl : us.length ≤ 800000000) :
    Calls Try.prog 13 #[.pointer (some ⟨g, 0, none⟩)] w (PskPost (.int .i64 0) Z (Lg.mnd L us).1 (Lg.mnd L us).2 fp g w) := by
  obtain ⟨w2, hw2⟩ : ∃ W, w.alloc (.cells #[.pointer (some ⟨g, 0, none⟩)] 25) = W := ⟨_, rfl⟩
  have hb : Below w.heap.size w w2 := by rw [← hw2]; exact b_alloc _ _
  have h1 : Blo w2 w.heap.size 25 #[.pointer (some ⟨g, 0, none⟩)] := by rw [← hw2]; exact Blo.made _ _ _
  have HF := Lib.hid (lface_m (w := w2) (fp := fun b => fp b ∧ b < w.heap.size) w.heap.size fun o => mend1_any ((((hM.lt).new hb).lt).new (b_alloc _ o)) hO hB hl w.heap.size (h1.new (b_alloc _ o)))
  have HB := Lib.hid hb
  have HW := Lib.hid hw2
  clear hM hb h1 hw2
  go_enter Try.func13, Try.ntmps13
  go_wp2_with fail
  rw [HW.out]
  refine HF.out.mono ?_
  rintro e w3 ⟨rfl, h3, h4⟩
  go_wp2
  go_ret
  exact psk_below (e := .returned (.int .i64 _)) HB.out ⟨rfl, h3.mono fun b hb _ => hb.imp (fun h => h.1) id, h4.more fun b hb => .inl hb.1⟩
set_option maxRecDepth 100000 in
set_option maxHeartbeats 4000000 in
theorem plrewrite_any {w : World} {fp : Nat → Prop} {g : Nat} {Z : Int} {L : List Int} {us : List Dk.U} (hM : PD w fp g Z L us) (hO : Dk.Ok Z L us) (hl : us.length ≤ 800000000)
    (S : Nat → Prop) (A : Option Addr) (n c : Nat) (vs : List Value) (bs : List (List Int)) (hn : bs.length = n) (hn6 : n ≤ 1000000) (hr : Rds w S A vs) (hb : BRd w S vs bs) (hx : ∀ b ∈ bs, b.length ≤ 140737488355328 ∧ Byt b) :
    Calls Try.prog 15 #[.pointer (some ⟨g, 0, none⟩), .slice A n c] w (PskPost (.int .i64 (Lg.rwr Z L us bs).1) Z (Lg.rwr Z L us bs).2.1 (Lg.rwr Z L us bs).2.2 fp g w) := by
  obtain ⟨w2, hw2⟩ : ∃ W, (w.alloc (.cells #[.pointer (some ⟨g, 0, none⟩)] 25)).alloc (.cells #[.slice A n c] 33) = W := ⟨_, rfl⟩
  have hbw : Below w.heap.size w w2 := by rw [← hw2]; exact below_new (b_alloc _ _) (b_alloc _ _)
  have h1 : Blo w2 w.heap.size 25 #[.pointer (some ⟨g, 0, none⟩)] := by rw [← hw2]; exact (Blo.made _ _ _).new (b_alloc _ _)
  have h2 : Blo w2 (w.heap.size + 1) 33 #[.slice A n c] := by
    have := Blo.made (w.alloc (.cells #[.pointer (some ⟨g, 0, none⟩)] 25)) 33 #[.slice A n c]
    rw [hw2] at this
    simpa using this
  have HF := Lib.hid (lface_r (w := w2) (fp := fun b => fp b ∧ b < w.heap.size) w.heap.size (w.heap.size + 1) fun o => rewrite1_any ((((hM.lt).new hbw).lt).new (b_alloc _ o)) hO hl S A n c vs bs hn hn6 ((hr.new hbw).new (b_alloc _ o)) ((hb.new hbw).new (b_alloc _ o)) hx w.heap.size (w.heap.size + 1) (h1.new (b_alloc _ o)) (h2.new (b_alloc _ o)))
  have HB := Lib.hid hbw
  have HW := Lib.hid hw2
  clear hM hr hb hbw h1 h2 hw2 hx
  go_enter Try.func15, Try.ntmps15
  go_wp2_with fail
  rw [HW.out]
  refine HF.out.mono ?_
  rintro e w3 ⟨rfl, h3, h4⟩
  go_wp2
  go_ret
  exact psk_below (e := .returned (.int .i64 _)) HB.out ⟨rfl, h3.mono fun b hb _ => hb.imp (fun h => h.1) id, h4.more fun b hb => .inl hb.1⟩
theorem plmend_nil (w : World) : Calls Try.prog 13 #[.pointer none] w fun e w' => e = .returned (.int .i64 1) ∧ Below w.heap.size w w' := by
  obtain ⟨w2, hw2⟩ : ∃ W, w.alloc (.cells #[.pointer none] 25) = W := ⟨_, rfl⟩
  have hb : Below w.heap.size w w2 := by rw [← hw2]; exact b_alloc _ _
  have h1 : Blo w2 w.heap.size 25 #[.pointer none] := by rw [← hw2]; exact Blo.made _ _ _
  have HB := Lib.hid hb
  have HW := Lib.hid hw2
  clear hb h1 hw2
  go_enter Try.func13, Try.ntmps13
  go_wp2_with fail
  rw [HW.out]
  refine (lface_nil _).mono ?_
  rintro e w3 ⟨rfl, h3⟩
  go_wp2
  go_ret
  exact ⟨rfl, below_new HB.out h3⟩
end Go.Proofs.Ytfllebfegngdhaa
