/- The document's own reader: its contracts. | The document's own reader, whatever its state: Fail, Int. -/
import Derived.Test.YtfllebfegngdhaaVintFace
import Derived.BigQuiet
import Derived.IntWalk

section
namespace Go.Proofs.Ytfllebfegngdhaa
open Go.ChangeShapes Go.WideShapes Go.ChangeAt Go.RowKit

/-- The document's reader at block g: its bytes (in block h), where it stands, how it failed. -/
def Mr (w : World) (g h : Nat) (L : List Int) (p : Nat) (x : Int) : Prop :=
  (L ≠ [] → g ≠ h) ∧ h < w.heap.size ∧ Byt L ∧ L.length ≤ 1000000 ∧ p ≤ L.length ∧ ∃ A c, Blo w g 95 #[.slice A L.length c, .int .i64 p, .int .i64 x] ∧ L.length ≤ c ∧ Rds w (· = h) A (u8s L)

section
variable {w w' : World} {g h p : Nat} {L : List Int} {x : Int}
theorem Mr.keep (hr : Mr w g h L p x) (hs : w.heap.size ≤ w'.heap.size) (hg : w'.heap[g]? = w.heap[g]?) (hh : w'.heap[h]? = w.heap[h]?) : Mr w' g h L p x := by
  obtain ⟨h1, h1', h2, h3, h3', A, c, h4, h5, h6⟩ := hr
  exact ⟨h1, Nat.lt_of_lt_of_le h1' hs, h2, h3, h3', A, c, h4.keep hg, h5, h6.keep fun b hb _ => by subst hb; exact hh⟩
theorem Mr.lt (hr : Mr w g h L p x) : g < w.heap.size := by
  obtain ⟨_, _, _, _, _, A, c, h4, _, _⟩ := hr
  exact h4.lt
theorem Mr.lth (hr : Mr w g h L p x) : h < w.heap.size := hr.2.1
theorem Mr.grown {row : Option Nat} (hr : Mr w g h L p x) (hb : w.grownBy w' row) (hg : some g ≠ row) (hh : some h ≠ row) : Mr w' g h L p x :=
  hr.keep hb.size (hb.block g hr.lt hg) (hb.block h hr.lth hh)
theorem Mr.new (hr : Mr w g h L p x) (hb : Below w.heap.size w w') : Mr w' g h L p x := hr.keep hb.size (hb.block g hr.lt) (hb.block h hr.lth)
theorem Mr.drew (hr : Mr w g h L p x) (hd : Drew w w') : Mr w' g h L p x := hr.grown (hd.gb none) (by simp) (by simp)
/-- Its own two numbers are turned. -/
theorem Mr.setE (hr : Mr w g h L p x) (y : Int) : Mr (w.setCell ⟨g, 2, none⟩ (.int .i64 y)) g h L p y ∧ w.grownBy (w.setCell ⟨g, 2, none⟩ (.int .i64 y)) (some g) := by
  have hg : w.grownBy (w.setCell ⟨g, 2, none⟩ (.int .i64 y)) (some g) := gb_set (World.grownBy.refl w _) (.inl rfl) _
  obtain ⟨h1, h2, h3, h4, h5, A, c, hb, hc, hrr⟩ := hr
  refine ⟨⟨h1, by simpa [World.setCell] using h2, h3, h4, h5, A, c, by simpa using hb.put 2 (.int .i64 y), hc, ?_⟩, hg⟩
  by_cases hl0 : L = []
  · subst hl0; exact Rds.nil
  · exact hrr.grown hg fun b hb _ e => by subst hb; injection e with e; exact h1 hl0 e.symm
theorem Mr.setAt (hr : Mr w g h L p x) {q : Nat} (hq : q ≤ L.length) : Mr (w.setCell ⟨g, 1, none⟩ (.int .i64 q)) g h L q x ∧ w.grownBy (w.setCell ⟨g, 1, none⟩ (.int .i64 q)) (some g) := by
  have hg : w.grownBy (w.setCell ⟨g, 1, none⟩ (.int .i64 q)) (some g) := gb_set (World.grownBy.refl w _) (.inl rfl) _
  obtain ⟨h1, h2, h3, h4, h5, A, c, hb, hc, hrr⟩ := hr
  refine ⟨⟨h1, by simpa [World.setCell] using h2, h3, h4, hq, A, c, by simpa using hb.put 1 (.int .i64 q), hc, ?_⟩, hg⟩
  by_cases hl0 : L = []
  · subst hl0; exact Rds.nil
  · exact hrr.grown hg fun b hb _ e => by subst hb; injection e with e; exact h1 hl0 e.symm
theorem Mr.cells (hr : Mr w g h L p x) : ∃ A c, w.cell? ⟨g, 0, none⟩ = some (.slice A L.length c) ∧ w.cell? ⟨g, 1, none⟩ = some (.int .i64 p) ∧ w.cell? ⟨g, 2, none⟩ = some (.int .i64 x) ∧ w.frozen? ⟨g, 1, none⟩ = false ∧ w.frozen? ⟨g, 2, none⟩ = false ∧
    L.length ≤ c ∧ Rds w (· = h) A (u8s L) := by
  obtain ⟨h1, h2, h3, h4, h5, A, c, hb, hc, hrr⟩ := hr
  exact ⟨A, c, by simpa using hb.cell 0, by simpa using hb.cell 1, by simpa using hb.cell 2, hb.frozen 1, hb.frozen 2, hc, hrr⟩
end

/-- What the document's Int leaves. -/
def RIntPost (g h : Nat) (L : List Int) (p : Nat) (w : World) (e : Ending) (w' : World) : Prop :=
  e = .returned (.int .i64 (V.int (L.drop p)).1) ∧ Mr w' g h L (p + (V.int (L.drop p)).2.1) (V.int (L.drop p)).2.2 ∧ w.grownBy w' (some g)

set_option maxHeartbeats 4000000 in
theorem rint_any {g h p : Nat} {L : List Int} {w : World} (hr : Mr w g h L p 0) :
    Calls Try.prog 64 #[.pointer (some ⟨g, 0, none⟩)] w (RIntPost g h L p w) := by
  have hp := hr.2.2.2.2.1
  have hL := hr.2.2.2.1
  have hB := hr.2.2.1
  obtain ⟨A0, c0, z0, z1, z2, y1, y2, hc, hrr0⟩ := hr.cells
  go_enter Try.func64, Try.ntmps64
  go_wp2
  clear z0 z1 z2 y1 y2
  go_loopw [3, 4, 5, 6] (fun nv pv sv iv wr => ∃ (n q : Int) (i : Nat), nv = .int .i64 n ∧ pv = .int .i64 q ∧ sv = .int .i64 0 ∧ iv = .int .i64 i ∧ i ≤ 6 ∧ i ≤ (L.drop p).length ∧ 0 ≤ n ∧ Hid (n < 128 ^ i) ∧ Hid (q = 128 ^ i) ∧ Hid (V.int (L.drop p) = V.num (6 - i) ((L.drop p).drop i) i n) ∧ Drew w wr) (fun _ _ _ iv _ => 6 - (intOf iv).toNat)
  case atStart => exact ⟨0, 1, 0, rfl, rfl, rfl, rfl, by omega, by omega, by omega, by show (0 : Int) < _; decide, rfl, rfl, Drew.refl w⟩
  case round =>
    obtain ⟨n, q, i, rfl, rfl, rfl, rfl, hi6, hil, hn0, Hn, Hq, HV, hd⟩ := hrel
    have hr1 := hr.drew hd
    obtain ⟨A, c, z0, z1, z2, y1, y2, hc, hrr⟩ := hr1.cells
    have hn1 := V.pow_le6 hi6 Hn.out
    by_cases h6 : i < 6
    · by_cases hlt : i < (L.drop p).length
      · have hlt' : p + i < L.length := by simp at hlt; omega
        obtain ⟨ad, rfl, _, hce⟩ := hrr.int hlt'
        obtain ⟨ch, hch⟩ : ∃ ch, ch = L[p + i] := ⟨_, rfl⟩
        have hch' : ch = (L.drop p)[i] := by rw [hch]; simp
        have hbt := hB.at hlt'
        rw [← hch] at hce hbt
        have HCH := Lib.hid hch'
        clear hch hch'
        have q0' := V.st_q0 (i := i) (ch := ch)
        have q1' := V.st_bound (ch := ch) Hn.out
        have q2' := V.pow_le6 (i := i + 1) (by omega) q1'
        have q0 : 0 ≤ ch % 128 * q := by rw [Hq.out]; exact q0'
        have q2 : n + ch % 128 * q < 4398046511104 := by rw [Hq.out]; exact q2'
        have HQ := Lib.hid q1'
        have qp : 0 < q := by rw [Hq.out]; exact V.p128 i
        have qu : q ≤ 4398046511104 := by
          rw [Hq.out]
          rcases i with _ | _ | _ | _ | _ | _ | i
          all_goals first | omega | decide
        clear q0' q1' q2'
        have s1 : IntKind.i64.wrap ((p : Int) + (i : Int)) = (p : Int) + (i : Int) := IntWalk.i64_in _ (by omega)
        have s2 : decide ((L.length : Int) ≤ (p : Int) + (i : Int)) = false := decide_eq_false (by omega)
        have s3 : ((p : Int) + (i : Int)).toNat = p + i := by omega
        have s4 : (0 : Int) ≤ (p : Int) + (i : Int) := by omega
        have s5 : (p : Int) + (i : Int) < (L.length : Int) := by omega
        go_wp2
        go_quiet (fail)
        go_wp2
        obtain ⟨W, hd2, hW⟩ : ∃ W, Drew w W ∧ wr.drewN nq = W := ⟨_, hd.more nq, rfl⟩
        rw [hW]
        have hce2 : W.cell? (ad.add (p + i)) = some (.int .u8 ch) := by rw [← hW]; exact hce
        have z0' : W.cell? ⟨g, 0, none⟩ = some (.slice (some ad) L.length c) := by rw [← hW]; exact z0
        have z1' : W.cell? ⟨g, 1, none⟩ = some (.int .i64 p) := by rw [← hW]; exact z1
        clear hW hr1 z0 z1 z2 y1 y2 hrr hd hce
        go_quiet (fail)
        obtain ⟨W2, hd3, hW⟩ : ∃ W2, Drew w W2 ∧ W.drewN nq = W2 := ⟨_, hd2.more nq, rfl⟩
        rw [hW]
        have hce3 : W2.cell? (ad.add (p + i)) = some (.int .u8 ch) := by rw [← hW]; exact hce2
        have z0 : W2.cell? ⟨g, 0, none⟩ = some (.slice (some ad) L.length c) := by rw [← hW]; exact z0'
        have z1 : W2.cell? ⟨g, 1, none⟩ = some (.int .i64 p) := by rw [← hW]; exact z1'
        clear hW z0' z1' hce2 hd2 s1 s2 s3 s4 s5
        by_cases h128 : 128 ≤ ch
        · have HM := Lib.hid (V.st_more HV.out h6 hlt HCH.out h128)
          clear z0 z1 hce3
          go_wp2
          go_roundw
          case rel => exact ⟨n + ch % 128 * q, q * 128, i + 1, rfl, rfl, rfl, by go_num, by omega, by omega, by omega, by rw [Hq.out]; exact HQ, by show q * 128 = _; rw [Hq.out, Int.pow_succ], by rw [Hq.out]; exact HM, hd3⟩
          case measure => simp [intOf]; omega
        · by_cases hbad : 1099511627776 < n + ch % 128 * q
          · have HM := Lib.hid (V.st_bad HV.out h6 hlt HCH.out (by omega) (.inl (by rw [← Hq.out]; exact hbad)))
            clear hce3
            obtain ⟨_, _, _, _, z2, y1, y2, _, _⟩ := (hr.drew hd3).cells
            have t1 : ((i : Int) + 1 == 0) = false := by simp; omega
            have t2 : decide (1099511627776 < n + ch % 128 * q) = true := decide_eq_true hbad
            go_wp2
            go_quiet (fail)
            go_wp2
            go_ret
            have R := (hr.drew (hd3.more nq)).setE 4
            exact ⟨ret_int (by rw [HM.out]), by rw [HM.out]; exact R.1, gb_trans ((hd3.more nq).gb _) R.2⟩
          · have t1 : ((i : Int) + 1 == 0) = false := by simp; omega
            have t2 : decide (1099511627776 < n + ch % 128 * q) = false := decide_eq_false hbad
            by_cases hi0 : i = 0
            · subst hi0
              have HM := Lib.hid (V.st_good HV.out h6 hlt HCH.out (by omega) (by rw [← Hq.out]; omega))
              clear hce3
              obtain ⟨_, _, _, _, z2, y1, y2, _, _⟩ := (hr.drew hd3).cells
              go_wp2
              go_quiet (fail)
              go_wp2
              go_ret
              have R := (hr.drew (hd3.more nq)).setAt (q := p + 1) (by omega)
              exact ⟨ret_int (by rw [HM.out, ← Hq.out]), by rw [HM.out]; exact R.1, gb_trans ((hd3.more nq).gb _) R.2⟩
            · have t3 : decide ((1 : Int) < (i : Int) + 1) = true := decide_eq_true (by omega)
              have t4 : IntKind.i64.wrap ((p : Int) + ((i : Int) + 1)) = (p : Int) + ((i : Int) + 1) := IntWalk.i64_in _ (by omega)
              have t5 : IntKind.i64.wrap ((p : Int) + ((i : Int) + 1) - 1) = (p : Int) + (i : Int) := by rw [IntWalk.i64_in _ (by omega)]; omega
              have t6 : ((p : Int) + (i : Int)).toNat = p + i := by omega
              have t7 : (0 : Int) ≤ (p : Int) + (i : Int) := by omega
              have t8 : (p : Int) + (i : Int) < (L.length : Int) := by omega
              obtain ⟨_, _, _, _, z2, y1, y2, _, _⟩ := (hr.drew hd3).cells
              by_cases hch0 : ch = 0
              · subst hch0
                have hn2 : ¬ 1099511627776 < n := by simpa using hbad
                have t9 : decide (1099511627776 < n) = false := decide_eq_false hn2
                have HM := Lib.hid (V.st_bad HV.out h6 hlt HCH.out (by omega) (.inr ⟨rfl, by omega⟩))
                go_wp2
                go_quiet (fail)
                clear t4 t5 t6 t7 t8
                go_wp2
                go_ret
                have R := (hr.drew (hd3.more nq)).setE 4
                exact ⟨ret_int (by rw [HM.out]), by rw [HM.out]; exact R.1, gb_trans ((hd3.more nq).gb _) R.2⟩
              · have hch1 : (ch == 0) = false := by simpa using hch0
                have HM := Lib.hid (V.st_good HV.out h6 hlt HCH.out (by omega) (by rw [← Hq.out]; omega))
                go_wp2
                go_quiet (fail)
                clear t4 t5 t6 t7 t8
                go_wp2
                go_ret
                have R := (hr.drew (hd3.more nq)).setAt (q := p + (i + 1)) (by omega)
                have ec : ((p + (i + 1) : Nat) : Int) = (p : Int) + ((i : Int) + 1) := by omega
                rw [ec] at R
                exact ⟨ret_int (by rw [HM.out, ← Hq.out]), by rw [HM.out]; exact R.1, gb_trans ((hd3.more nq).gb _) R.2⟩
      · have hge : L.length ≤ p + i := by simp at hlt; omega
        have HM := Lib.hid (V.st_short HV.out h6 (by omega))
        have s1 : IntKind.i64.wrap ((p : Int) + (i : Int)) = (p : Int) + (i : Int) := IntWalk.i64_in _ (by omega)
        have s2 : decide ((L.length : Int) ≤ (p : Int) + (i : Int)) = true := decide_eq_true (by omega)
        go_wp2
        go_quiet (fail)
        clear s1
        go_wp2
        go_ret
        have R := (hr.drew (hd.more nq)).setE 3
        exact ⟨ret_int (by rw [HM.out]), by rw [HM.out]; exact R.1, gb_trans ((hd.more nq).gb _) R.2⟩
    · have HM := Lib.hid (V.st_long HV.out (by omega))
      go_wp2
      go_quiet (fail)
      go_wp2
      go_ret
      have R := (hr.drew (hd.more nq)).setE 4
      exact ⟨ret_int (by rw [HM.out]), by rw [HM.out]; exact R.1, gb_trans ((hd.more nq).gb _) R.2⟩

end Go.Proofs.Ytfllebfegngdhaa
end

section
namespace Go.Proofs.Ytfllebfegngdhaa
open Go.ChangeShapes Go.WideShapes Go.ChangeAt Go.RowKit

set_option maxHeartbeats 1000000 in
theorem rint_failed {g h p : Nat} {L : List Int} {x : Int} {w : World} (hr : Mr w g h L p x) (hx : x ≠ 0) :
    Calls Try.prog 64 #[.pointer (some ⟨g, 0, none⟩)] w fun e w' => e = .returned (.int .i64 0) ∧ w = w' := by
  obtain ⟨A, c, z0, z1, z2, y1, y2, hc, hrr⟩ := hr.cells
  have hx' : (x != 0) = true := by simpa using hx
  go_enter Try.func64, Try.ntmps64
  go_wp2
  go_ret
  exact ⟨rfl, rfl⟩

/-! ### each part, whatever the reader's state: the document's reader stands as a list that is left -/
/-- The document's reader with what it has left. -/
def Ml (w : World) (g h : Nat) (L l : List Int) (x : Int) : Prop := ∃ p, Mr w g h L p x ∧ L.drop p = l
section
variable {w w' : World} {g h : Nat} {L l : List Int} {x : Int}
theorem Ml.grown {row : Option Nat} (hr : Ml w g h L l x) (hb : w.grownBy w' row) (hg : some g ≠ row) (hh : some h ≠ row) : Ml w' g h L l x := by
  obtain ⟨p, hr, e⟩ := hr
  exact ⟨p, hr.grown hb hg hh, e⟩
theorem Ml.new (hr : Ml w g h L l x) (hb : Below w.heap.size w w') : Ml w' g h L l x := by
  obtain ⟨p, hr, e⟩ := hr
  exact ⟨p, hr.new hb, e⟩
theorem Ml.lt (hr : Ml w g h L l x) : g < w.heap.size := by obtain ⟨p, hr, e⟩ := hr; exact hr.lt
theorem Ml.lth (hr : Ml w g h L l x) : h < w.heap.size := by obtain ⟨p, hr, e⟩ := hr; exact hr.lth
end

def RIntAll (g h : Nat) (L : List Int) (s : Int × List Int × Int) (w : World) (e : Ending) (w' : World) : Prop := e = .returned (.int .i64 s.1) ∧ Ml w' g h L s.2.1 s.2.2 ∧ w.grownBy w' (some g)
theorem rint_all {g h : Nat} {L l : List Int} {x : Int} {w : World} (hr : Ml w g h L l x) : Calls Try.prog 64 #[.pointer (some ⟨g, 0, none⟩)] w (RIntAll g h L (V.intS l x) w) := by
  obtain ⟨p, hr, rfl⟩ := hr
  by_cases hx : x = 0
  · subst hx
    refine (rint_any hr).mono ?_
    rintro e w' ⟨he, hm, hg⟩
    exact ⟨he, ⟨_, hm, by show _ = (L.drop p).drop _; rw [List.drop_drop]⟩, hg⟩
  · have e : V.intS (L.drop p) x = (0, L.drop p, x) := by unfold V.intS; rw [if_neg hx]
    rw [e]
    refine (rint_failed hr hx).mono ?_
    rintro e w' ⟨he, rfl⟩
    exact ⟨he, ⟨p, hr, rfl⟩, World.grownBy.refl _ _⟩

theorem mr_made {w w1 : World} {A : Option Addr} {c : Nat} {L : List Int} (hB : Byt L) (hl : L.length ≤ 1000000) (hown : w1.ownsRow w.heap.size 5 1 (.slice A L.length c) L.length (u8s L)) (hs : w.heap.size ≤ w1.heap.size) :
    ∃ h, Ml (w1.alloc (.cells #[.slice A L.length c, .int .i64 0, .int .i64 0] 95)) w1.heap.size h L L 0 ∧ w.heap.size ≤ h := by
  have hr := own_rds hown
  obtain ⟨A', c', e, hc, hnil⟩ := own_form hown
  injection e with e1 _ e3
  subst e1; subst e3
  rcases A with _ | ad
  · obtain ⟨h0, h1⟩ := hnil rfl
    have : L = [] := List.eq_nil_of_length_eq_zero h0
    subst this
    exact ⟨w1.heap.size, ⟨0, ⟨fun h => absurd rfl h, by simp, hB, hl, by simp, none, _, Blo.made _ _ _, by omega, Rds.nil⟩, rfl⟩, by omega⟩
  · have hlt := hown.lt ad.block rfl
    refine ⟨ad.block, ⟨0, ⟨fun _ => by omega, by simp; omega, hB, hl, by omega, _, _, Blo.made _ _ _, hc, ?_⟩, rfl⟩, by omega⟩
    exact (hr.alloc _).mono fun b hb => by have := hb.2; simp [Value.ownBlock] at this; exact this.symm

theorem Ml.cells {w : World} {g h : Nat} {L l : List Int} {x : Int} (hr : Ml w g h L l x) : ∃ A c, ∃ p : Nat, w.cell? ⟨g, 0, none⟩ = some (.slice A L.length c) ∧ w.cell? ⟨g, 1, none⟩ = some (.int .i64 p) ∧ w.cell? ⟨g, 2, none⟩ = some (.int .i64 x) ∧ l.length + p = L.length := by
  obtain ⟨p, hr, rfl⟩ := hr
  have hp := hr.2.2.2.2.1
  obtain ⟨A, c, z0, z1, z2, _⟩ := hr.cells
  exact ⟨A, c, p, z0, z1, z2, by simp; omega⟩
end Go.Proofs.Ytfllebfegngdhaa
end

