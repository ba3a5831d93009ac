/- Layer 14: the program's: giving up (must), framed, replace, and the one face over what writes, a closure. -/
import Derived.Test.YtfllebfegngdhaaLgRef2
import Derived.Test.YtfllebfegngdhaaDkP
import Derived.Test.YtfllebfegngdhaaFrameAll
namespace Go.Proofs.Ytfllebfegngdhaa
set_option linter.unusedVariables false
set_option linter.unusedSimpArgs false
open Go.ChangeShapes Go.WideShapes Go.ChangeAt Go.RowKit Go.Deep

section
variable {fp fq : Nat → Prop} {w w1 w2 w' : World} {g : Nat} {Z : Int} {L L' : List Int} {us us' : List Dk.U} {r r' : Value} {e e' : Ending}
theorem PD.lt (h : PD w fp g Z L us) : PD w (fun b => fp b ∧ b < w.heap.size) g Z L us := h.mono fun b hb hl => ⟨hb, hl⟩
theorem PD.new (h : PD w fp g Z L us) (hb : Below w.heap.size w w') : PD w' fp g Z L us := h.keep fun b _ hl => hb.block b hl
theorem psk_below (hb : Below w.heap.size w w1) (h : PskPost r Z L us fp g w1 e w') : PskPost r Z L us fp g w e w' :=
  ⟨h.1, h.2.1.mono fun b hb' _ => hb'.imp id fun k => Nat.le_trans hb.size k, (Kp.of hb).trans h.2.2 fun b h => .inl h⟩
theorem psk_more (h : PskPost r Z L us fp g w e w1) (k : PskPost r' Z L' us' (fun b => fp b ∨ w.heap.size ≤ b) g w1 e' w') : PskPost r' Z L' us' fp g w e' w' :=
  ⟨k.1, k.2.1.mono fun b hb _ => hb.elim id fun h' => .inr (Nat.le_trans h.2.2.size h'), h.2.2.trans k.2.2 fun b h => h⟩
theorem psk_none (hM : PD w fp g Z L us) (hb : Below w.heap.size w w') : PskPost r Z L us fp g w (.returned r) w' :=
  ⟨rfl, (hM.new hb).mono fun b h _ => .inl h, .of hb⟩
/-- What a core that may give up leaves. -/
def CorePost (x : Int) (Z : Int) (L : List Int) (us : List Dk.U) (fp : Nat → Prop) (g : Nat) (w : World) (e : Ending) (w' : World) : Prop :=
  (x = 0 ∧ e = .returned (.tuple #[]) ∨ x ≠ 0 ∧ e = gave x) ∧ PskPost (.int .i64 x) Z L us fp g w (.returned (.int .i64 x)) w'
theorem face_psk {o : Obj} {v : Value} (h : PskPost r Z L us (fun b => fp b ∧ b < w.heap.size) g (w.alloc o) e w2) : PskPost r Z L us fp g w (.returned r) (w2.setCell ⟨w.heap.size, 0, none⟩ v) := by
  obtain ⟨_, h1, h2⟩ := h
  have hs : (w.alloc o).heap.size = w.heap.size + 1 := by simp
  have hg : w2.grownBy (w2.setCell ⟨w.heap.size, 0, none⟩ v) (some w.heap.size) := gb_set (World.grownBy.refl _ _) (.inl rfl) _
  have hb0 : Below w.heap.size w (w.alloc o) := b_alloc _ _
  refine ⟨rfl, (h1.keep fun b hb hl => hg.block b hl fun e => ?_).mono fun b hb _ => hb.elim (fun h => .inl h.1) fun h => .inr (by omega), ?_⟩
  · injection e with e
    rw [hs] at hb
    omega
  · exact (((Kp.of hb0).trans h2 fun b h => .inl h.1).more (fq := fp) fun b h => .inl h).trans (Kp.gb (fp := fun b => b = w.heap.size) hg fun k e => by injection e with e; exact .inl e.symm) fun b h => .inr (by omega)
theorem core_ok (h : PskPost r Z L us fp g w e w') : CorePost 0 Z L us fp g w (.returned (.tuple #[])) w' := ⟨.inl ⟨rfl, rfl⟩, rfl, h.2⟩
theorem core_no {x : Int} (hx : x ≠ 0) (h : PskPost r Z L us fp g w e w') : CorePost x Z L us fp g w (gave x) w' := ⟨.inr ⟨hx, rfl⟩, rfl, h.2⟩
end
theorem must_yes (w : World) : Calls Try.prog 34 #[.int .i64 0] w fun e w' => e = .returned (.tuple #[]) ∧ w = w' := by
  go_enter Try.func34, Try.ntmps34
  go_wp2
  go_end0
  exact ⟨rfl, rfl⟩
theorem must_no (y : Int) (hy : y ≠ 0) (w : World) : Calls Try.prog 34 #[.int .i64 y] w fun e w' => e = gave y ∧ w = w' := by
  have hy' : (y != 0) = true := by simpa using hy
  go_enter Try.func34, Try.ntmps34
  go_wp2
  simp [bodyPost]

/-- What framed answers of a body that may be. -/
def FrmPost (b : List Int) (w : World) (e : Ending) (w' : World) : Prop :=
  ∃ B d, e = .returned (.slice B (F.put b).length d) ∧ w'.ownsRow w.heap.size 5 1 (.slice B (F.put b).length d) (F.put b).length (u8s (F.put b)) ∧ Below w.heap.size w w'
set_option maxRecDepth 100000 in
set_option maxHeartbeats 1000000 in
theorem framed_yes (S : Nat → Prop) (A : Option Addr) (n c : Nat) (b : List Int) (w : World) (hn : b.length = n) (hr : Rds w S A (u8s b)) (hl : b.length ≤ 4096) (hb : Byt b) :
    Calls Try.prog 35 #[.slice A n c] w (FrmPost b w) := by
  have HP := Lib.hid (fput_yes S A n c b w hn.symm hr hl hb)
  clear hr hn hl hb
  go_enter Try.func35, Try.ntmps35
  go_wp2_with fail
  refine HP.out.mono ?_
  rintro e w1 ⟨v, rfl, hv, hb1⟩
  obtain ⟨B, d, rfl, hd, hown⟩ := hv.form
  go_wp2_with fail
  refine (must_yes _).mono ?_
  rintro e w9 ⟨rfl, rfl⟩
  have HF : Hid (FrmPost b w (.returned (.slice B (F.put b).length d)) w1) := Lib.hid ⟨B, d, rfl, hown, hb1⟩
  clear hown hv hd hb1
  go_wp2
  go_ret
  exact HF.out
set_option maxRecDepth 100000 in
set_option maxHeartbeats 1000000 in
theorem framed_long (A : Option Addr) (n c : Nat) (w : World) (hn : 4096 < n) (hm : n ≤ maxLen) :
    Calls Try.prog 35 #[.slice A n c] w fun e w' => e = gave 6 ∧ w = w' := by
  have HP := Lib.hid (fput_long A n c w hn hm)
  clear hn hm
  go_enter Try.func35, Try.ntmps35
  go_wp2_with fail
  refine HP.out.mono ?_
  rintro e w1 ⟨rfl, rfl⟩
  go_wp2_with fail
  refine (must_no 6 (by decide) _).mono ?_
  rintro e w9 ⟨rfl, rfl⟩
  go_wp2
  exact ⟨rfl, rfl, rfl⟩

set_option maxRecDepth 100000 in
set_option maxHeartbeats 4000000 in
theorem replace_any {w : World} {fp : Nat → Prop} {g : Nat} {Z : Int} {L : List Int} {us : List Dk.U} (hM : PD w fp g Z L us) (hO : Dk.Ok Z L us) (hl : us.length ≤ 800000000)
    (S : Nat → Prop) (A : Option Addr) (n c : Nat) (xs : List Int) (hn : xs.length = n) (hr : Rds w S A (u8s xs)) (hS : ∀ b, S b → b < w.heap.size → ¬ fp b) (hn47 : n ≤ 140737488355328) :
    Calls Try.prog 39 #[.pointer (some ⟨g, 0, none⟩), .slice A n c] w (CorePost (if Z < (n : Int) then 7 else 0) Z (if Z < (n : Int) then L else xs) (if Z < (n : Int) then us else []) fp g w) := by
  have HSw := Lib.hid (pswap_any hM hO (by omega) S A n c xs hn hr hS hn47)
  have HSy : Hid (∀ (w2 : World) (fq : Nat → Prop), PD w2 fq g Z L (us ++ [.s xs]) → (n : Int) ≤ Z → Calls Try.prog 31 #[.pointer (some ⟨g, 0, none⟩)] w2 (PskPost (.int .i64 0) Z xs [] fq g w2)) := Lib.hid (fun w2 fq hM2 hz => by
    have := psync_any hM2 (hO.swap _ (by omega)) (by simp; omega)
    rwa [Dk.aft_app] at this)
  by_cases hz : Z < (n : Int)
  · have h1 : Dk.swE Z xs = 7 := by unfold Dk.swE; rw [if_pos (by omega)]
    have h2 : Dk.swU Z us xs = us := by unfold Dk.swU; rw [if_pos (by omega)]
    rw [h1, h2] at HSw
    rw [if_pos hz, if_pos hz, if_pos hz]
    clear hM hr hS hn h1 h2 hz HSy
    go_enter Try.func39, Try.ntmps39
    go_wp2_with fail
    refine HSw.out.mono ?_
    rintro e w2 ⟨rfl, h1, h2⟩
    go_wp2_with fail
    refine (must_no 7 (by decide) _).mono ?_
    rintro e w9 ⟨rfl, rfl⟩
    go_wp2
    exact ⟨rfl, core_no (x := 7) (r := .int .i64 7) (e := .returned (.int .i64 7)) (by decide) ⟨rfl, h1, h2⟩⟩
  · have h1 : Dk.swE Z xs = 0 := by unfold Dk.swE; rw [if_neg (by omega)]
    have h2 : Dk.swU Z us xs = us ++ [.s xs] := by unfold Dk.swU; rw [if_neg (by omega)]
    rw [h1, h2] at HSw
    rw [if_neg hz, if_neg hz, if_neg hz]
    have HZ : Hid ((n : Int) ≤ Z) := Lib.hid (by omega)
    clear hM hr hS hn h1 h2 hz
    go_enter Try.func39, Try.ntmps39
    go_wp2_with fail
    refine HSw.out.mono ?_
    rintro e w2 ⟨rfl, h1, h2⟩
    go_wp2_with fail
    refine (must_yes _).mono ?_
    rintro e w9 ⟨rfl, rfl⟩
    go_wp2_with fail
    refine (HSy.out w2 _ h1 HZ.out).mono ?_
    rintro e w3 ⟨rfl, h3, h4⟩
    go_wp2_with fail
    refine (must_yes _).mono ?_
    rintro e w9 ⟨rfl, rfl⟩
    go_wp2
    go_end0
    exact core_ok (r := .int .i64 0) (psk_more (r := .tuple #[]) (e := .returned (.tuple #[])) (e' := .returned (.int .i64 0)) ⟨rfl, h1, h2⟩ ⟨rfl, h3, h4⟩)

set_option maxRecDepth 100000 in
set_option maxHeartbeats 1000000 in
theorem lface_panicking (p : Addr) (z : Value) (y : Int) (older : List PanicEntry) (w : World) (hc : w.cell? p = some z) (hz : w.frozen? p = false) :
    CallsD Try.prog 51 #[.pointer (some p)] (.panicking ({ v := .iface 26 (.int .i64 y), recovered := false } :: older)) w fun e u' w' =>
      e = .returned (.tuple #[]) ∧ u' = .panicking ({ v := .iface 26 (.int .i64 y), recovered := true } :: older) ∧ w' = w.setCell p (.int .i64 y) := by
  refine callsD_of_wpS Try.func51 rfl fun c₀ cs hu => ?_
  apply wpS_seq
  apply wpS_region
  simp [wpOpsS, go_sem, recoverD, hu, run_assert_yes, Try.ntmps51, Exit.thenS]
  apply wpS_seq
  apply wpS_region
  simp [wpOpsS, go_sem, Exit.thenS, Array.replicate]
  refine wpS_cond (t := true) (by simp [Act.eval]) ?_
  simp only [if_true]
  apply wpS_region
  simp [wpOpsS, go_sem, hc, hz, bodyPostS, results, Try.results51]
set_option maxRecDepth 100000 in
set_option maxHeartbeats 1000000 in
theorem lface_idle (p : Addr) (w : World) :
    CallsD Try.prog 51 #[.pointer (some p)] .returning w fun e u' w' => e = .returned (.tuple #[]) ∧ u' = .returning ∧ w = w' := by
  refine callsD_of_wpS Try.func51 rfl fun c₀ cs hu => ?_
  apply wpS_seq
  apply wpS_region
  simp [wpOpsS, go_sem, recoverD, hu, run_assert_no, Try.ntmps51, Exit.thenS]
  apply wpS_seq
  apply wpS_region
  simp [wpOpsS, go_sem, Exit.thenS, Array.replicate]
  refine wpS_cond (t := false) (by simp [Act.eval]) ?_
  simp only [Bool.false_eq_true, if_false]
  refine wpS_of_wp (wp_skip ?_)
  cases c₀
  simp_all [bodyPostS, results, Try.results51]

set_option maxRecDepth 100000 in
set_option maxHeartbeats 1000000 in
theorem lface_w {w : World} {fp : Nat → Prop} {g : Nat} {Z x : Int} {L : List Int} {us : List Dk.U} (p q : Nat) (H : ∀ o, Calls Try.prog 33 #[.pointer (some ⟨p, 0, none⟩), .pointer (some ⟨q, 0, none⟩)] (w.alloc o) (CorePost x Z L us (fun b => fp b ∧ b < w.heap.size) g (w.alloc o))) :
    Calls Try.prog 32 #[.pointer (some ⟨g, 0, none⟩), .func (.func 33) #[] #[.pointer (some ⟨p, 0, none⟩), .pointer (some ⟨q, 0, none⟩)]] w (PskPost (.int .i64 x) Z L us fp g w) := by
  have hmf : ∀ (fn : Fn) (first cap : Array Value) (w : World), (Instr.makeFunc fn first cap).run Try.prog w = .ok (.func fn first cap) w := fun _ _ _ _ => rfl
  have hv := Blo.made w 26 #[.int .i64 0]
  go_enter_defers Try.func32, Try.ntmps32
  go_wp2_with fail
  refine (H _).mono ?_
  rintro e w1 ⟨⟨h0, rfl⟩ | ⟨h0, rfl⟩, hP⟩
  · have hv1 : Blo w1 w.heap.size 26 #[.int .i64 0] := hP.2.2.blo hv (fun h => by omega)
    obtain ⟨cv, fv⟩ := var_cell hv1
    have hc2 : (w1.setCell ⟨w.heap.size, 0, none⟩ (.int .i64 0)).cell? ⟨w.heap.size, 0, none⟩ = some (.int .i64 0) := (var_cell (by simpa using hv1.put 0 (.int .i64 0))).1
    subst h0
    have HP := Lib.hid (face_psk (v := .int .i64 0) hP)
    clear hP hv hv1
    go_wp2
    refine leaves_cons (f := 51) (args := #[.pointer (some ⟨w.heap.size, 0, none⟩)]) (by simp) (by simp [go_sem]) ?_
    refine (lface_idle ⟨w.heap.size, 0, none⟩ _).mono ?_
    rintro e u' w'' ⟨rfl, rfl, rfl⟩
    simp [Leaves, settle, results, Try.results32, go_sem]
    rw [hc2]
    exact ⟨_, rfl, HP.out⟩
  · have hv1 : Blo w1 w.heap.size 26 #[.int .i64 0] := hP.2.2.blo hv (fun h => by omega)
    obtain ⟨cv, fv⟩ := var_cell hv1
    have hc2 : (w1.setCell ⟨w.heap.size, 0, none⟩ (.int .i64 x)).cell? ⟨w.heap.size, 0, none⟩ = some (.int .i64 x) := (var_cell (by simpa using hv1.put 0 (.int .i64 x))).1
    have HP := Lib.hid (face_psk (v := .int .i64 x) hP)
    clear hP hv hv1 h0
    go_wp2
    refine leaves_cons (f := 51) (args := #[.pointer (some ⟨w.heap.size, 0, none⟩)]) (by simp) (by simp [go_sem]) ?_
    refine (lface_panicking ⟨w.heap.size, 0, none⟩ _ x [] _ cv fv).mono ?_
    rintro e u' w'' ⟨rfl, rfl, rfl⟩
    simp [Leaves, settle, results, Try.results32, go_sem]
    rw [hc2]
    exact ⟨_, rfl, HP.out⟩
set_option maxRecDepth 100000 in
set_option maxHeartbeats 1000000 in
theorem lface_m {w : World} {fp : Nat → Prop} {g : Nat} {Z x : Int} {L : List Int} {us : List Dk.U} (p : Nat) (H : ∀ o, Calls Try.prog 37 #[.pointer (some ⟨p, 0, none⟩)] (w.alloc o) (CorePost x Z L us (fun b => fp b ∧ b < w.heap.size) g (w.alloc o))) :
    Calls Try.prog 32 #[.pointer (some ⟨g, 0, none⟩), .func (.func 37) #[] #[.pointer (some ⟨p, 0, none⟩)]] w (PskPost (.int .i64 x) Z L us fp g w) := by
  have hmf : ∀ (fn : Fn) (first cap : Array Value) (w : World), (Instr.makeFunc fn first cap).run Try.prog w = .ok (.func fn first cap) w := fun _ _ _ _ => rfl
  have hv := Blo.made w 26 #[.int .i64 0]
  go_enter_defers Try.func32, Try.ntmps32
  go_wp2_with fail
  refine (H _).mono ?_
  rintro e w1 ⟨⟨h0, rfl⟩ | ⟨h0, rfl⟩, hP⟩
  · have hv1 : Blo w1 w.heap.size 26 #[.int .i64 0] := hP.2.2.blo hv (fun h => by omega)
    obtain ⟨cv, fv⟩ := var_cell hv1
    have hc2 : (w1.setCell ⟨w.heap.size, 0, none⟩ (.int .i64 0)).cell? ⟨w.heap.size, 0, none⟩ = some (.int .i64 0) := (var_cell (by simpa using hv1.put 0 (.int .i64 0))).1
    subst h0
    have HP := Lib.hid (face_psk (v := .int .i64 0) hP)
    clear hP hv hv1
    go_wp2
    refine leaves_cons (f := 51) (args := #[.pointer (some ⟨w.heap.size, 0, none⟩)]) (by simp) (by simp [go_sem]) ?_
    refine (lface_idle ⟨w.heap.size, 0, none⟩ _).mono ?_
    rintro e u' w'' ⟨rfl, rfl, rfl⟩
    simp [Leaves, settle, results, Try.results32, go_sem]
    rw [hc2]
    exact ⟨_, rfl, HP.out⟩
  · have hv1 : Blo w1 w.heap.size 26 #[.int .i64 0] := hP.2.2.blo hv (fun h => by omega)
    obtain ⟨cv, fv⟩ := var_cell hv1
    have hc2 : (w1.setCell ⟨w.heap.size, 0, none⟩ (.int .i64 x)).cell? ⟨w.heap.size, 0, none⟩ = some (.int .i64 x) := (var_cell (by simpa using hv1.put 0 (.int .i64 x))).1
    have HP := Lib.hid (face_psk (v := .int .i64 x) hP)
    clear hP hv hv1 h0
    go_wp2
    refine leaves_cons (f := 51) (args := #[.pointer (some ⟨w.heap.size, 0, none⟩)]) (by simp) (by simp [go_sem]) ?_
    refine (lface_panicking ⟨w.heap.size, 0, none⟩ _ x [] _ cv fv).mono ?_
    rintro e u' w'' ⟨rfl, rfl, rfl⟩
    simp [Leaves, settle, results, Try.results32, go_sem]
    rw [hc2]
    exact ⟨_, rfl, HP.out⟩
set_option maxRecDepth 100000 in
set_option maxHeartbeats 1000000 in
theorem lface_r {w : World} {fp : Nat → Prop} {g : Nat} {Z x : Int} {L : List Int} {us : List Dk.U} (p q : Nat) (H : ∀ o, Calls Try.prog 41 #[.pointer (some ⟨p, 0, none⟩), .pointer (some ⟨q, 0, none⟩)] (w.alloc o) (CorePost x Z L us (fun b => fp b ∧ b < w.heap.size) g (w.alloc o))) :
    Calls Try.prog 32 #[.pointer (some ⟨g, 0, none⟩), .func (.func 41) #[] #[.pointer (some ⟨p, 0, none⟩), .pointer (some ⟨q, 0, none⟩)]] w (PskPost (.int .i64 x) Z L us fp g w) := by
  have hmf : ∀ (fn : Fn) (first cap : Array Value) (w : World), (Instr.makeFunc fn first cap).run Try.prog w = .ok (.func fn first cap) w := fun _ _ _ _ => rfl
  have hv := Blo.made w 26 #[.int .i64 0]
  go_enter_defers Try.func32, Try.ntmps32
  go_wp2_with fail
  refine (H _).mono ?_
  rintro e w1 ⟨⟨h0, rfl⟩ | ⟨h0, rfl⟩, hP⟩
  · have hv1 : Blo w1 w.heap.size 26 #[.int .i64 0] := hP.2.2.blo hv (fun h => by omega)
    obtain ⟨cv, fv⟩ := var_cell hv1
    have hc2 : (w1.setCell ⟨w.heap.size, 0, none⟩ (.int .i64 0)).cell? ⟨w.heap.size, 0, none⟩ = some (.int .i64 0) := (var_cell (by simpa using hv1.put 0 (.int .i64 0))).1
    subst h0
    have HP := Lib.hid (face_psk (v := .int .i64 0) hP)
    clear hP hv hv1
    go_wp2
    refine leaves_cons (f := 51) (args := #[.pointer (some ⟨w.heap.size, 0, none⟩)]) (by simp) (by simp [go_sem]) ?_
    refine (lface_idle ⟨w.heap.size, 0, none⟩ _).mono ?_
    rintro e u' w'' ⟨rfl, rfl, rfl⟩
    simp [Leaves, settle, results, Try.results32, go_sem]
    rw [hc2]
    exact ⟨_, rfl, HP.out⟩
  · have hv1 : Blo w1 w.heap.size 26 #[.int .i64 0] := hP.2.2.blo hv (fun h => by omega)
    obtain ⟨cv, fv⟩ := var_cell hv1
    have hc2 : (w1.setCell ⟨w.heap.size, 0, none⟩ (.int .i64 x)).cell? ⟨w.heap.size, 0, none⟩ = some (.int .i64 x) := (var_cell (by simpa using hv1.put 0 (.int .i64 x))).1
    have HP := Lib.hid (face_psk (v := .int .i64 x) hP)
    clear hP hv hv1 h0
    go_wp2
    refine leaves_cons (f := 51) (args := #[.pointer (some ⟨w.heap.size, 0, none⟩)]) (by simp) (by simp [go_sem]) ?_
    refine (lface_panicking ⟨w.heap.size, 0, none⟩ _ x [] _ cv fv).mono ?_
    rintro e u' w'' ⟨rfl, rfl, rfl⟩
    simp [Leaves, settle, results, Try.results32, go_sem]
    rw [hc2]
    exact ⟨_, rfl, HP.out⟩
theorem lface_nil {w : World} (v : Value) : Calls Try.prog 32 #[.pointer none, v] w fun e w' => e = .returned (.int .i64 1) ∧ Below w.heap.size w w' := by
  have hmf : ∀ (fn : Fn) (first cap : Array Value) (w : World), (Instr.makeFunc fn first cap).run Try.prog w = .ok (.func fn first cap) w := fun _ _ _ _ => rfl
  have hv := Blo.made w 26 #[.int .i64 0]
  obtain ⟨cv, fv⟩ := var_cell hv
  have hc2 : ((w.alloc (.cells #[.int .i64 0] 26)).setCell ⟨w.heap.size, 0, none⟩ (.int .i64 1)).cell? ⟨w.heap.size, 0, none⟩ = some (.int .i64 1) := (var_cell (by simpa using hv.put 0 (.int .i64 1))).1
  have HB : Hid (Below w.heap.size w ((w.alloc (.cells #[.int .i64 0] 26)).setCell ⟨w.heap.size, 0, none⟩ (.int .i64 1))) := Lib.hid ((b_alloc _ _).setCell (p := ⟨w.heap.size, 0, none⟩) (Nat.le_refl _) (.int .i64 1))
  clear hv
  go_enter_defers Try.func32, Try.ntmps32
  go_wp2
  refine leaves_cons (f := 51) (args := #[.pointer (some ⟨w.heap.size, 0, none⟩)]) (by simp) (by simp [go_sem]) ?_
  refine (lface_panicking ⟨w.heap.size, 0, none⟩ _ 1 [] _ cv fv).mono ?_
  rintro e u' w'' ⟨rfl, rfl, rfl⟩
  simp [Leaves, settle, results, Try.results32, go_sem]
  exact b_alloc _ _
end Go.Proofs.Ytfllebfegngdhaa
