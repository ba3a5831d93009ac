/- Contracts of layer 2's reader: pass. | Contracts of layer 2's reader: its face. | Contracts of layer 2's reader, whatever its state: Int. -/
import Derived.Test.YtfllebfegngdhaaVint
import Derived.WalkLawsBesides
import Derived.Defers
import Derived.Recover

section
namespace Go.Proofs.Ytfllebfegngdhaa
open Go.ChangeShapes Go.WideShapes Go.ChangeAt Go.RowKit

/-- The reading parts give up by this. -/
abbrev gave (x : Int) : Ending := .panicked [{ v := .iface 26 (.int .i64 x), recovered := false }]

set_option maxHeartbeats 400000 in
theorem pass_neg (g : Nat) {n : Int} (w : World) (hn : n < 0) :
    Calls Try.prog 80 #[.pointer (some ⟨g, 0, none⟩), .int .i64 n] w fun e w' => e = gave 2 ∧ w = w' := by
  go_enter Try.func80, Try.ntmps80
  go_wp2
  exact ⟨rfl, rfl, rfl⟩

set_option maxHeartbeats 400000 in
theorem pass_short {g h : Nat} {l : List Int} {x n : Int} {w : World} (hr : Rdr w g h l x) (hn : (l.length : Int) < n) :
    Calls Try.prog 80 #[.pointer (some ⟨g, 0, none⟩), .int .i64 n] w fun e w' => e = gave 3 ∧ w = w' := by
  obtain ⟨_, _, _, _, A, c, hb, _, _⟩ := hr
  have c0 := hb.cell 0
  have c1 := hb.cell 1
  simp at c0 c1
  have hn0 : 0 ≤ n := by omega
  go_enter Try.func80, Try.ntmps80
  go_wp2
  exact ⟨rfl, rfl, rfl⟩

/-- What pass leaves where there are enough. -/
def PassPost (g h : Nat) (l : List Int) (x : Int) (n : Nat) (w : World) (e : Ending) (w' : World) : Prop :=
  ∃ A c, e = .returned (.slice A n c) ∧ Rds w' (· = h) A (u8s (l.take n)) ∧ Rdr w' g h (l.drop n) x ∧ w.grownBy w' (some g)

theorem rdr_cut {w : World} {g h : Nat} {l : List Int} {x : Int} {A : Option Addr} {c n : Nat} (hne : l ≠ [] → g ≠ h) (hh : h < w.heap.size) (hB : Byt l) (hl : l.length ≤ 1000000) (hb : Blo w g 104 #[.slice A l.length c, .int .i64 x]) (hc : l.length ≤ c)
    (hr : Rds w (· = h) A (u8s l)) (hn : n ≤ l.length) :
    Rds (w.setCell ⟨g, 0, none⟩ (.slice (if c = n then A else A.map (·.add n)) (l.length - n) (c - n))) (· = h) A (u8s (l.take n)) ∧
    Rdr (w.setCell ⟨g, 0, none⟩ (.slice (if c = n then A else A.map (·.add n)) (l.length - n) (c - n))) g h (l.drop n) x ∧
    w.grownBy (w.setCell ⟨g, 0, none⟩ (.slice (if c = n then A else A.map (·.add n)) (l.length - n) (c - n))) (some g) := by
  have hg : w.grownBy (w.setCell ⟨g, 0, none⟩ (.slice (if c = n then A else A.map (·.add n)) (l.length - n) (c - n))) (some g) := gb_set (World.grownBy.refl w _) (.inl rfl) _
  by_cases hl0 : l = []
  · subst hl0
    refine ⟨by simpa using Rds.nil, ⟨fun h => absurd (by simp) h, by simpa [World.setCell] using hh, hB.drop n, by simp, if c = n then A else A.map (·.add n), c - n, ?_, by simp, by simpa using Rds.nil⟩, hg⟩
    have := hb.put 0 (.slice (if c = n then A else A.map (·.add n)) (([] : List Int).length - n) (c - n))
    simpa using this
  · have hne' : ∀ b, b = h → b < w.heap.size → some b ≠ some g := fun b hb _ e => by subst hb; injection e with e; exact hne hl0 e.symm
    refine ⟨?_, ⟨fun _ => hne hl0, by simpa [World.setCell] using hh, hB.drop n, by simp; omega, if c = n then A else A.map (·.add n), c - n, ?_, by simp; omega, ?_⟩, hg⟩
    · have := (hr.take n).grown hg hne'
      rwa [← List.map_take] at this
    · have := hb.put 0 (.slice (if c = n then A else A.map (·.add n)) (l.length - n) (c - n))
      simpa using this
    · have := (Rds.cut (k := n) (c := c) hr (by simpa using hc)).grown hg hne'
      rwa [← List.map_drop] at this

set_option maxHeartbeats 400000 in
theorem pass_ok {g h : Nat} {l : List Int} {x : Int} {n : Nat} {w : World} (hr : Rdr w g h l x) (hn : n ≤ l.length) :
    Calls Try.prog 80 #[.pointer (some ⟨g, 0, none⟩), .int .i64 n] w (PassPost g h l x n w) := by
  obtain ⟨hne, hh, hB, hl, A, c, hb, hc, hrr⟩ := hr
  have c0 := hb.cell 0
  have c1 := hb.cell 1
  have f0 := hb.frozen 0
  simp at c0 c1
  have R := rdr_cut hne hh hB hl hb hc hrr hn
  go_enter Try.func80, Try.ntmps80
  go_wp2
  all_goals go_ret
  · have hcn : c = n := by assumption
    rw [if_pos hcn, hcn, Nat.sub_self] at R
    exact ⟨A, n, rfl, R⟩
  · have hcn : ¬ c = n := by assumption
    rw [if_neg hcn] at R
    exact ⟨A, c, rfl, R⟩

theorem pass_ok' {g h : Nat} {l : List Int} {x : Int} {n : Nat} {k : Int} {w : World} (hr : Rdr w g h l x) (hn : n ≤ l.length) (hk : k = n) :
    Calls Try.prog 80 #[.pointer (some ⟨g, 0, none⟩), .int .i64 k] w (PassPost g h l x n w) := by
  subst hk
  exact pass_ok hr hn

/-- What number comes to: the number, or giving up. -/
def NumPost (g h : Nat) (l : List Int) (w : World) (e : Ending) (w' : World) : Prop :=
  ((V.int l).2.2 = 0 ∧ e = .returned (.int .i64 (V.int l).1) ∧ Rdr w' g h (l.drop (V.int l).2.1) 0 ∧ w.grownBy w' (some g)) ∨
  ((V.int l).2.2 ≠ 0 ∧ e = gave (V.int l).2.2 ∧ w = w')

set_option maxHeartbeats 1000000 in
theorem number_any {g h : Nat} {l : List Int} {w : World} (hr : Rdr w g h l 0) :
    Calls Try.prog 78 #[.pointer (some ⟨g, 0, none⟩)] w (NumPost g h l w) := by
  have hr0 := hr
  obtain ⟨hne, hh, hB, hl, A, c, hb, hc, hrr⟩ := hr
  have c0 := hb.cell 0
  have c1 := hb.cell 1
  simp at c0 c1
  go_enter Try.func78, Try.ntmps78
  go_wp2
  go_loop [3, 6] (fun nv iv => ∃ (n : Int) (i : Nat), nv = .int .i64 n ∧ iv = .int .i64 i ∧ i ≤ 6 ∧ i ≤ l.length ∧ 0 ≤ n ∧ Hid (n < 128 ^ i) ∧ Hid (V.int l = V.num (6 - i) (l.drop i) i n)) (fun _ iv => 6 - (intOf iv).toNat)
  case atStart => exact ⟨0, 0, rfl, rfl, by omega, by omega, by omega, by show (0 : Int) < _; decide, rfl⟩
  case round =>
    obtain ⟨n, i, rfl, rfl, hi, hil0, hn0, Hn, HV⟩ := hrel
    have hn1 := V.pow_le6 hi Hn.out
    by_cases h6 : i < 6
    · by_cases hil : i < l.length
      · obtain ⟨ad, rfl, _, hce⟩ := hrr.int hil
        have hbt := hB.at hil
        obtain ⟨ch, hch⟩ : ∃ ch, ch = l[i] := ⟨_, rfl⟩
        rw [← hch] at hce hbt
        have q0 : 0 ≤ ch % 128 * 2 ^ (7 * i) := by rw [V.st_pow]; exact V.st_q0
        have q1' := V.st_bound (ch := ch) Hn.out
        have q1 : n + ch % 128 * 2 ^ (7 * i) < 4398046511104 := by rw [V.st_pow]; exact V.pow_le6 (by omega) q1'
        have HQ := Lib.hid q1'
        have HCH := Lib.hid hch
        have hne' : ((i : Int) == (l.length : Int)) = false := by simp; omega
        clear q1' hch
        by_cases h128 : 128 ≤ ch
        · have HM := Lib.hid (V.st_more HV.out h6 hil HCH.out h128)
          go_wp2
          go_round
          case rel => exact ⟨n + ch % 128 * 128 ^ i, i + 1, by rw [V.st_pow], by go_num, by omega, by omega, by rw [← V.st_pow]; omega, HQ, HM⟩
          case measure => simp [intOf]; omega
        · by_cases hbad : 1099511627776 < n + ch % 128 * 2 ^ (7 * i)
          · have HM := Lib.hid (V.st_bad HV.out h6 hil HCH.out (by omega) (.inl (by rw [← V.st_pow]; exact hbad)))
            go_wp2
            exact ⟨rfl, .inr ⟨by rw [HM.out]; decide, by rw [HM.out], rfl⟩⟩
          · by_cases h0 : ch = 0
            · subst h0
              by_cases hi0 : 0 < i
              · have HM := Lib.hid (V.st_bad HV.out h6 hil HCH.out (by omega) (.inr ⟨rfl, hi0⟩))
                go_wp2
                exact ⟨rfl, .inr ⟨by rw [HM.out]; decide, by rw [HM.out], rfl⟩⟩
              · have HM := Lib.hid (V.st_good HV.out h6 hil HCH.out (by omega) (by rw [← V.st_pow]; omega))
                go_wp2_with fail
                refine (pass_ok' hr0 (n := i + 1) (by omega) (by omega)).mono ?_
                rintro e w1 ⟨A1, c1, rfl, _, hr1, hg1⟩
                go_wp2
                go_ret
                exact .inl ⟨by rw [HM.out], ret_int (by rw [HM.out]; simp), by rw [HM.out]; exact hr1, hg1⟩
            · have h0' : (ch == 0) = false := by simpa using h0
              have HM := Lib.hid (V.st_good HV.out h6 hil HCH.out (by omega) (by rw [← V.st_pow]; omega))
              go_wp2_with fail
              refine (pass_ok' hr0 (n := i + 1) (by omega) (by omega)).mono ?_
              rintro e w1 ⟨A1, c1, rfl, _, hr1, hg1⟩
              go_wp2
              go_ret
              exact .inl ⟨by rw [HM.out], ret_int (by rw [HM.out, ← V.st_pow]), by rw [HM.out]; exact hr1, hg1⟩
      · have HM := Lib.hid (V.st_short HV.out h6 (by omega))
        have hne' : ((i : Int) == (l.length : Int)) = true := by simp; omega
        go_wp2
        exact ⟨rfl, .inr ⟨by rw [HM.out]; decide, by rw [HM.out], rfl⟩⟩
    · have HM := Lib.hid (V.st_long HV.out (by omega))
      go_wp2
      exact ⟨rfl, .inr ⟨by rw [HM.out]; decide, by rw [HM.out], rfl⟩⟩

end Go.Proofs.Ytfllebfegngdhaa
end

section
namespace Go.Proofs.Ytfllebfegngdhaa
open Go.ChangeShapes Go.WideShapes Go.ChangeAt Go.RowKit

theorem run_assert_yes (y : Int) (w : World) : (Instr.typeAssert (.iface 26 (.int .i64 y)) 20 26 true).run Try.prog w = .ok (.tuple #[.int .i64 y, .bool true]) w := by
  kernel_rfl
theorem run_assert_no (w : World) : (Instr.typeAssert .nilIface 20 26 true).run Try.prog w = .ok (.tuple #[.int .i64 0, .bool false]) w := by
  kernel_rfl

set_option maxHeartbeats 1000000 in
theorem catch_panicking (p : Addr) (g : Nat) (z : Value) (y : Int) (older : List PanicEntry) (w : World) (hp : w.cell? p = some (.pointer (some ⟨g, 0, none⟩))) (hc : w.cell? ⟨g, 1, none⟩ = some z) (hz : w.frozen? ⟨g, 1, none⟩ = false) :
    CallsD Try.prog 79 #[.pointer (some p)] (.panicking ({ v := .iface 26 (.int .i64 y), recovered := false } :: older)) w fun e u' w' =>
      e = .returned (.tuple #[]) ∧ u' = .panicking ({ v := .iface 26 (.int .i64 y), recovered := true } :: older) ∧ w' = w.setCell ⟨g, 1, none⟩ (.int .i64 y) := by
  refine callsD_of_wpS Try.func79 rfl fun c₀ cs hu => ?_
  apply wpS_seq
  apply wpS_region
  simp [wpOpsS, go_sem, recoverD, hu, run_assert_yes, Try.ntmps79, Exit.thenS]
  apply wpS_seq
  apply wpS_region
  simp [wpOpsS, go_sem, Exit.thenS, Array.replicate]
  refine wpS_cond (t := true) (by simp [Act.eval]) ?_
  simp only [if_true]
  apply wpS_region
  simp [wpOpsS, go_sem, hp, hc, hz, bodyPostS, results, Try.results79]

set_option maxHeartbeats 1000000 in
theorem catch_idle (p : Addr) (w : World) :
    CallsD Try.prog 79 #[.pointer (some p)] .returning w fun e u' w' => e = .returned (.tuple #[]) ∧ u' = .returning ∧ w = w' := by
  refine callsD_of_wpS Try.func79 rfl fun c₀ cs hu => ?_
  apply wpS_seq
  apply wpS_region
  simp [wpOpsS, go_sem, recoverD, hu, run_assert_no, Try.ntmps79, Exit.thenS]
  apply wpS_seq
  apply wpS_region
  simp [wpOpsS, go_sem, Exit.thenS, Array.replicate]
  refine wpS_cond (t := false) (by simp [Act.eval]) ?_
  simp only [Bool.false_eq_true, if_false]
  refine wpS_of_wp (wp_skip ?_)
  cases c₀
  simp_all [bodyPostS, results, Try.results79]

set_option maxHeartbeats 400000 in
theorem face_failed {g h : Nat} {l : List Int} {x : Int} {w : World} (f : Value) (hr : Rdr w g h l x) (hx : x ≠ 0) :
    Calls Try.prog 76 #[.pointer (some ⟨g, 0, none⟩), f] w fun e w' => e = .returned (.tuple #[]) ∧ w.alloc (.cells #[.pointer (some ⟨g, 0, none⟩)] 101) = w' := by
  have hx' : (x != 0) = true := by simpa using hx
  go_enter_defers Try.func76, Try.ntmps76
  go_wp2_with fail
  refine (err_any (hr.alloc (.cells #[.pointer (some ⟨g, 0, none⟩)] 101))).mono ?_
  rintro e w1 ⟨rfl, rfl⟩
  go_wp2
  simp [bodyPostD, Leaves, results, Try.results76, go_sem]

/-- What a face leaves of what it was handed: it read, or gave up by y. -/
def FacePost (g : Nat) (Q : World → Prop) (Py : Int → Prop) (W : World) (e : Ending) (w' : World) : Prop :=
  e = .returned (.tuple #[]) ∧ (Q w' ∨ ∃ y, Py y ∧ w' = W.setCell ⟨g, 1, none⟩ (.int .i64 y))
/-- What is handed to a face does: it reads, or gives up and has turned nothing. -/
def ReadPost (Q : World → Prop) (Py : Int → Prop) (W : World) (e : Ending) (w' : World) : Prop :=
  (e = .returned (.tuple #[]) ∧ Q w') ∨ ∃ y, e = gave y ∧ Py y ∧ W = w'

set_option maxHeartbeats 1000000 in
theorem face_any {g h : Nat} {l : List Int} {w : World} (K : Nat) (caps : Array Value) (Q : World → Prop) (Py : Int → Prop) (hK : K = 77 ∨ K = 77) (hr : Rdr w g h l 0)
    (H : Calls Try.prog K caps (w.alloc (.cells #[.pointer (some ⟨g, 0, none⟩)] 101)) (ReadPost Q Py (w.alloc (.cells #[.pointer (some ⟨g, 0, none⟩)] 101)))) :
    Calls Try.prog 76 #[.pointer (some ⟨g, 0, none⟩), .func (.func K) #[] caps] w (FacePost g Q Py (w.alloc (.cells #[.pointer (some ⟨g, 0, none⟩)] 101))) := by
  have hmf : ∀ (fn : Fn) (first cap : Array Value) (w : World), (Instr.makeFunc fn first cap).run Try.prog w = .ok (.func fn first cap) w := fun _ _ _ _ => rfl
  have hr1 := hr.alloc (.cells #[.pointer (some ⟨g, 0, none⟩)] 101)
  obtain ⟨_, _, _, _, A, c, hb, _, _⟩ := hr1
  have c1 := hb.cell 1
  have f1 := hb.frozen 1
  simp only [List.getElem?_toArray, List.getElem?_cons_succ, List.getElem?_cons_zero] at c1
  have C1 := Lib.hid c1
  have F1 := Lib.hid f1
  have HB := hb
  clear c1 f1 hb
  rcases hK with rfl | rfl
  all_goals
    go_enter_defers Try.func76, Try.ntmps76
    go_wp2_with fail
    refine (err_any (hr.alloc (.cells #[.pointer (some ⟨g, 0, none⟩)] 101))).mono ?_
    rintro e w1 ⟨rfl, rfl⟩
    go_wp2_with fail
    refine H.mono ?_
    rintro e w1 (⟨rfl, hQ⟩ | ⟨y, rfl, hy, rfl⟩)
    · go_wp2
      refine leaves_cons (f := 79) (args := #[.pointer (some ⟨w.heap.size, 0, none⟩)]) (by simp) (by simp [go_sem]) ?_
      refine (catch_idle ⟨w.heap.size, 0, none⟩ _).mono ?_
      rintro e u' w'' ⟨rfl, rfl, rfl⟩
      exact ⟨_, results_none rfl _ _ _, rfl, .inl hQ⟩
    · go_wp2
      refine leaves_cons (f := 79) (args := #[.pointer (some ⟨w.heap.size, 0, none⟩)]) (by simp) (by simp [go_sem]) ?_
      refine (catch_panicking ⟨w.heap.size, 0, none⟩ g _ y [] _ (by simp) C1.out F1.out).mono ?_
      rintro e u' w'' ⟨rfl, rfl, rfl⟩
      simp [Leaves, settle, results, Try.results76, go_sem]
      exact ⟨rfl, .inr ⟨y, hy, rfl⟩⟩


/-! ### Int -/
/-- What Int leaves: the number, what is left, how it stands. -/
def IntPost (g h : Nat) (l : List Int) (w : World) (e : Ending) (w' : World) : Prop :=
  e = .returned (.int .i64 (V.int l).1) ∧ Rdr w' g h (l.drop (V.int l).2.1) (V.int l).2.2 ∧ w.grownBy w' (some g)

/-- Int's closure: r lies at block p, n at block q. -/
def IntRead (g h q : Nat) (l : List Int) (W w' : World) : Prop :=
  (V.int l).2.2 = 0 ∧ Blo w' q 3 #[.int .i64 (V.int l).1] ∧ Rdr w' g h (l.drop (V.int l).2.1) 0 ∧ (∃ w1, W.grownBy w1 (some g) ∧ w1.grownBy w' (some q))

set_option maxHeartbeats 1000000 in
theorem int1_any {g h p q : Nat} {l : List Int} {w : World} (hr : Rdr w g h l 0) (hp : Blo w p 101 #[.pointer (some ⟨g, 0, none⟩)]) (hq : Blo w q 3 #[.int .i64 0]) (hqh : q ≠ h) :
    Calls Try.prog 77 #[.pointer (some ⟨p, 0, none⟩), .pointer (some ⟨q, 0, none⟩)] w (ReadPost (IntRead g h q l w) (fun y => y = (V.int l).2.2 ∧ y ≠ 0) w) := by
  obtain ⟨cp, _⟩ := var_cell hp
  have hgq : g ≠ q := by obtain ⟨_, _, _, _, A, c, hb, _⟩ := hr; exact hb.typeNe hq (by decide)
  go_enter Try.func77, Try.ntmps77
  go_wp2_with fail
  refine (number_any hr).mono ?_
  rintro e w1 (⟨h0, rfl, hr1, hg1⟩ | ⟨h0, rfl, rfl⟩)
  · have hq1 := hq.grown hg1 (by simp; omega)
    obtain ⟨cq, fq⟩ := var_cell hq1
    have H0 := Lib.hid h0
    clear h0
    go_wp2
    go_end0
    refine .inl ⟨rfl, H0.out, ?_, ?_, w1, hg1, gb_set (World.grownBy.refl _ _) (.inl rfl) _⟩
    · simpa using hq1.put 0 (.int .i64 (V.int l).1)
    · exact hr1.grown (gb_set (g := q) (World.grownBy.refl _ _) (.inl rfl) _) (by simp; omega) (by simp; omega)
  · have H0 := Lib.hid h0
    clear h0
    go_wp2
    exact ⟨rfl, .inr ⟨_, rfl, ⟨rfl, H0.out⟩, rfl⟩⟩

/-- A reader that gave up by y. -/
theorem rdr_fail {w : World} {g h : Nat} {l : List Int} {x : Int} (hr : Rdr w g h l x) (y : Int) : Rdr (w.setCell ⟨g, 1, none⟩ (.int .i64 y)) g h l y ∧ w.grownBy (w.setCell ⟨g, 1, none⟩ (.int .i64 y)) (some g) := by
  have hg : w.grownBy (w.setCell ⟨g, 1, none⟩ (.int .i64 y)) (some g) := gb_set (World.grownBy.refl w _) (.inl rfl) _
  obtain ⟨h1, h2, h3, h4, A, c, hb, hc, hrr⟩ := hr
  refine ⟨⟨h1, by simpa [World.setCell] using h2, h3, h4, A, c, by simpa using hb.put 1 (.int .i64 y), hc, ?_⟩, hg⟩
  by_cases hl0 : l = []
  · subst hl0; exact Rds.nil
  · exact hrr.grown hg fun b hb _ e => by subst hb; injection e with e; exact h1 hl0 e.symm

theorem int_after {w w' : World} {g h : Nat} {l : List Int} {o1 o2 o3 : Obj} (hr : Rdr w g h l 0) (hq : Blo (((w.alloc o1).alloc o2).alloc o3) (w.heap.size + 1) 3 #[.int .i64 0])
    (H : IntRead g h (w.heap.size + 1) l (((w.alloc o1).alloc o2).alloc o3) w' ∨ ∃ y, (y = (V.int l).2.2 ∧ y ≠ 0) ∧ w' = (((w.alloc o1).alloc o2).alloc o3).setCell ⟨g, 1, none⟩ (.int .i64 y)) :
    Blo w' (w.heap.size + 1) 3 #[.int .i64 (V.int l).1] ∧ Rdr w' g h (l.drop (V.int l).2.1) (V.int l).2.2 ∧ w.grownBy w' (some g) := by
  have hg0 : w.grownBy (((w.alloc o1).alloc o2).alloc o3) (some g) := gb_alloc (gb_alloc (gb_alloc (World.grownBy.refl w _) _) _) _
  rcases H with ⟨h0, hb, hr1, w1, hg1, hg2⟩ | ⟨y, ⟨rfl, hy⟩, rfl⟩
  · refine ⟨hb, by rw [h0]; exact hr1, gb_new (gb_trans hg0 hg1) hg2 fun k hk => by injection hk with hk; omega⟩
  · obtain ⟨e1, e2⟩ := V.int_bad l hy
    obtain ⟨r1, r2⟩ := rdr_fail (((hr.alloc o1).alloc o2).alloc o3) (V.int l).2.2
    refine ⟨?_, by rw [e2]; exact r1, gb_trans hg0 r2⟩
    rw [e1]
    exact hq.other (by have := hr.lt; simp; omega) _

set_option maxHeartbeats 1000000 in
theorem int_any {g h : Nat} {l : List Int} {w : World} (hr : Rdr w g h l 0) :
    Calls Try.prog 73 #[.pointer (some ⟨g, 0, none⟩)] w (IntPost g h l w) := by
  have hmf : ∀ (fn : Fn) (first cap : Array Value) (w : World), (Instr.makeFunc fn first cap).run Try.prog w = .ok (.func fn first cap) w := fun _ _ _ _ => rfl
  have hp : Blo (((w.alloc (.cells #[.pointer (some ⟨g, 0, none⟩)] 101)).alloc (.cells #[.int .i64 0] 3)).alloc (.cells #[.pointer (some ⟨g, 0, none⟩)] 101)) w.heap.size 101 #[.pointer (some ⟨g, 0, none⟩)] := ((Blo.made w _ _).alloc _).alloc _
  have hq : Blo (((w.alloc (.cells #[.pointer (some ⟨g, 0, none⟩)] 101)).alloc (.cells #[.int .i64 0] 3)).alloc (.cells #[.pointer (some ⟨g, 0, none⟩)] 101)) (w.heap.size + 1) 3 #[.int .i64 0] := by
    have := (Blo.made (w.alloc (.cells #[.pointer (some ⟨g, 0, none⟩)] 101)) 3 #[.int .i64 0]).alloc (.cells #[.pointer (some ⟨g, 0, none⟩)] 101)
    simpa using this
  have H := int1_any (((hr.alloc _).alloc _).alloc _) hp hq (by have := hr.lth; omega)
  go_enter Try.func73, Try.ntmps73
  go_wp2_with fail
  refine (face_any _ _ _ _ (.inl rfl) ((hr.alloc _).alloc _) H).mono ?_
  rintro e w1 ⟨rfl, H1⟩
  obtain ⟨hb, hr1, hg⟩ := int_after hr hq H1
  obtain ⟨cq, _⟩ := var_cell hb
  go_wp2
  go_ret
  exact ⟨rfl, hr1, hg⟩

set_option maxHeartbeats 1000000 in
theorem int_failed {g h : Nat} {l : List Int} {x : Int} {w : World} (hr : Rdr w g h l x) (hx : x ≠ 0) :
    Calls Try.prog 73 #[.pointer (some ⟨g, 0, none⟩)] w fun e w' => e = .returned (.int .i64 0) ∧ Below w.heap.size w w' := by
  have hmf : ∀ (fn : Fn) (first cap : Array Value) (w : World), (Instr.makeFunc fn first cap).run Try.prog w = .ok (.func fn first cap) w := fun _ _ _ _ => rfl
  go_enter Try.func73, Try.ntmps73
  go_wp2_with fail
  refine (face_failed _ ((hr.alloc _).alloc _) hx).mono ?_
  rintro e w1 ⟨rfl, rfl⟩
  go_wp2
  go_ret
  exact ⟨rfl, (((Below.refl _ _).alloc (Nat.le_refl _) _).alloc (by simp) _).alloc (by simp; omega) _⟩

end Go.Proofs.Ytfllebfegngdhaa
end

section
namespace Go.Proofs.Ytfllebfegngdhaa
open Go.ChangeShapes Go.WideShapes Go.ChangeAt Go.RowKit

/-- The answer, what is left, how it stands. -/
def IntAll (g h : Nat) (s : Int × List Int × Int) (w : World) (e : Ending) (w' : World) : Prop := e = .returned (.int .i64 s.1) ∧ Rdr w' g h s.2.1 s.2.2 ∧ w.grownBy w' (some g)
theorem int_all {g h : Nat} {l : List Int} {x : Int} {w : World} (hr : Rdr w g h l x) : Calls Try.prog 73 #[.pointer (some ⟨g, 0, none⟩)] w (IntAll g h (V.intS l x) w) := by
  by_cases hx : x = 0
  · subst hx
    have e : V.intS l 0 = ((V.int l).1, l.drop (V.int l).2.1, (V.int l).2.2) := rfl
    rw [e]
    exact int_any hr
  · have e : V.intS l x = (0, l, x) := by unfold V.intS; rw [if_neg hx]
    rw [e]
    exact (int_failed hr hx).mono fun _ _ ⟨he, hb⟩ => ⟨he, hr.new hb, gb_below hb _⟩

end Go.Proofs.Ytfllebfegngdhaa
end

