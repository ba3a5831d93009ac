/- Layer 13, the program's: writes that wait are closures; what each does, and all of them, one behind the other. -/
import Derived.Test.YtfllebfegngdhaaDkStp
import Derived.Test.YtfllebfegngdhaaFam
import Derived.Lib.SliceRun
namespace Go.Proofs.Ytfllebfegngdhaa
set_option linter.unusedVariables false
set_option linter.unusedSimpArgs false
open Go.ChangeShapes Go.WideShapes Go.ChangeAt Go.RowKit Go.Deep

/-- s[:p] of bytes. -/
theorem run_bto (A : Option Addr) (n c p : Nat) (h1 : p ≤ c) (W : World) :
    (Instr.slice 32 (.slice A n c) none (some (.int .i64 (p : Int))) none).run Try.prog W = .ok (.slice A p c) W := by
  have hel : Try.prog.elem 32 = 5 := by simp [Program.elem, Try.underlying32]
  have hz : (sizeOf 5).run Try.prog W = .ok 1 W := by
    obtain ⟨i0, hi, _, hz1, _⟩ := info_parts Try.rowU8
    simp [sizeOf, typeInfo, hi, hz1]
  rw [run_slice_h W 32 A n c (by rw [hel]; exact Try.underlying32) .i64 _ (by omega) (by omega), hel, hz]
  simp [sliced]
  intro _
  cases A <;> simp [Addr.add]
theorem own_base {w : World} {B k n : Nat} {t : TypeId} {v : Value} {xs : List Value} (h : w.ownsRow 0 t k v n xs) (hb : ∀ g, v.ownBlock = some g → B ≤ g) : w.ownsRow B t k v n xs := by
  obtain ⟨h1, h2⟩ := h
  refine ⟨h1, ?_⟩
  rcases h2 with h2 | ⟨g, cap, cur, e, hg, r⟩
  · exact .inl h2
  · exact .inr ⟨g, cap, cur, e, hb g (by rw [e]; rfl), r⟩

/-- A write that waits: a closure, with the bytes that it has captured. -/
structure Dk.C where
  sw : Bool
  xs : List Int
  p : Nat
  v : Value
def Dk.C.us (x : Dk.C) : List Dk.U := if x.sw then [.s x.xs] else x.xs.map .b
def Dk.C.fv (x : Dk.C) : Value := .func (.func (if x.sw then 58 else 57)) #[] #[.pointer (some ⟨x.p, 0, none⟩)]
/-- What it does with so many units to do. -/
def Dk.C.go (x : Dk.C) (R : List Int) (k : Nat) : List Int := if x.sw then (if k = 0 then R else x.xs) else R ++ x.xs.take k
theorem Dk.C.aft (x : Dk.C) (R : List Int) (k : Nat) : Dk.aft R (x.us.take k) = x.go R k := by
  unfold Dk.C.us Dk.C.go
  split
  · cases k <;> simp [Dk.aft, Dk.app]
  · rw [← List.map_take, Dk.aft_bytes]
theorem Dk.aft_take (L : List Int) (us vs : List Dk.U) (K : Nat) : Dk.aft L ((us ++ vs).take K) = Dk.aft (Dk.aft L (us.take K)) (vs.take (K - us.length)) := by rw [List.take_append, Dk.aft_app]
def Dk.Cs (l : List Dk.C) : List Dk.U := l.flatMap Dk.C.us
theorem Dk.Cs_app (l m : List Dk.C) : Dk.Cs (l ++ m) = Dk.Cs l ++ Dk.Cs m := by simp [Dk.Cs]
theorem Dk.Cs_take (l : List Dk.C) {i : Nat} (h : i < l.length) : Dk.Cs (l.take (i + 1)) = Dk.Cs (l.take i) ++ l[i].us := by
  rw [List.take_succ_eq_append_getElem h, Dk.Cs_app]
  simp [Dk.Cs]
/-- Behind the first i of them. -/
def Dk.Rk (L : List Int) (l : List Dk.C) (K i : Nat) : List Int := Dk.aft L ((Dk.Cs (l.take i)).take K)
def Dk.Kk (l : List Dk.C) (K i : Nat) : Nat := K - (Dk.Cs (l.take i)).length
theorem Dk.Rk_step (L : List Int) (l : List Dk.C) (K : Nat) {i : Nat} (h : i < l.length) : Dk.Rk L l K (i + 1) = l[i].go (Dk.Rk L l K i) (Dk.Kk l K i) := by
  unfold Dk.Rk Dk.Kk
  rw [Dk.Cs_take l h, Dk.aft_take, Dk.C.aft]
theorem Dk.Kk_step (l : List Dk.C) (K : Nat) {i : Nat} (h : i < l.length) : Dk.Kk l K (i + 1) = Dk.Kk l K i - l[i].us.length := by
  unfold Dk.Kk
  rw [Dk.Cs_take l h, List.length_append]
  omega

/-- Its captured variable and its bytes, in blocks of fp. -/
structure Dk.C.Ok (x : Dk.C) (w : World) (fp : Nat → Prop) : Prop where
  blo : Blo w x.p 32 #[x.v]
  inn : fp x.p
  own : ByR w fp x.v x.xs
section
variable {fp fq : Nat → Prop} {w w' : World} {x : Dk.C}
theorem Dk.C.Ok.keep (h : x.Ok w fp) (hk : ∀ b, fp b → b < w.heap.size → w'.heap[b]? = w.heap[b]?) : x.Ok w' fp := ⟨h.blo.keep (hk _ h.inn h.blo.lt), h.inn, h.own.keep hk⟩
theorem Dk.C.Ok.mono (h : x.Ok w fp) (hf : ∀ b, fp b → b < w.heap.size → fq b) : x.Ok w fq := ⟨h.blo, hf _ h.inn h.blo.lt, h.own.mono hf⟩
theorem Dk.C.Ok.otherO (h : x.Ok w fp) {o : Option Nat} {t : TypeId} (hg : w.grownBy w' o) (ho : ∀ b, o = some b → ∃ cs, Blo w b t cs) (h1 : 5 ≠ t) (h2 : 32 ≠ t) : x.Ok w' fp :=
  ⟨h.blo.keep (hg.block _ h.blo.lt fun e => by
    obtain ⟨cs, hc⟩ := ho _ e.symm
    exact Blo.typeNe h.blo hc h2 rfl), h.inn, h.own.otherO hg ho h1⟩
end

/-- append([]byte{}, b...) in a walk. -/
theorem wpList_cpb (w : World) {ops : Array Oper} {rest : List Oper} {o : Oper} {a : Act} {Q : Exit → Act → World → Prop} (hgd : o.guard = none) (s x : Operand)
    (ho : o.op = .call { callee := .builtin .append, args := #[s, x], argTypes := #[32, 32] })
    (B : Nat) (p : Addr) (h0 : ByR w (fun b => B ≤ b) (.slice (some p) 0 0) []) (hB : B ≤ w.heap.size) (hs : a.eval s = .slice (some p) 0 0)
    (S : Nat → Prop) (A : Option Addr) (m c : Nat) (xs : List Int) (hx : a.eval x = .slice A m c) (hm : xs.length = m) (hr : Rds w S A (u8s xs)) (h63 : m ≤ 140737488355328)
    (h : ∀ A' c' w', ByR w' (fun b => B ≤ b) (.slice A' xs.length c') xs → Below w.heap.size w w' → wpList Try.prog ops Q rest (a.put o.dst (.slice A' xs.length c')) w') : wpList Try.prog ops Q (o :: rest) a w := by
  refine wpList_plain hgd fun K hK => ?_
  obtain ⟨A', c', w', hrun, h2, h3⟩ := run_cpb h0 hB o.type S A m c xs hm hr h63
  unfold Oper.wp execOp
  simp only [ho, resolve, invoke, builtin, Sem.run_bind, Sem.run_pure, Result.andThen_ok, List.map_toArray, List.map_cons, List.map_nil, hs, hx, hrun]
  exact hK _ _ (h A' c' w' h2 h3)

set_option maxRecDepth 100000 in
set_option maxHeartbeats 4000000 in
theorem pclone_any (w : World) (S : Nat → Prop) (A : Option Addr) (m c : Nat) (xs : List Int) (hm : xs.length = m) (hr : Rds w S A (u8s xs)) (h63 : m ≤ 140737488355328) :
    Calls Try.prog 56 #[.slice A m c] w (NewB xs w) := by
  cases A with
  | none =>
    have hx : xs = [] := by
      cases xs with
      | nil => rfl
      | cons y ys =>
        obtain ⟨ad, e, _⟩ := hr 0 (.int .u8 y) rfl
        cases e
    subst hx
    have HP : Hid (NewB [] w (.returned (.slice none 0 0)) w) := Lib.hid ⟨none, 0, rfl, ByR.nil _ _, Below.refl _ _⟩
    have hni : ∀ W, (binOp .eql 32 (.slice none m c) (.slice none 0 0)).run Try.prog W = .ok (.bool true) W := fun W => Lib.run_eql_slice_nil W _ _ none m c 0 0 Try.underlying32
    clear hr
    go_enter Try.func56, Try.ntmps56
    go_wp2
    go_ret
    exact HP.out
  | some ad =>
    obtain ⟨w1, hw1⟩ : ∃ W, w.alloc (.cells #[] 5) = W := ⟨_, rfl⟩
    have hb1 : Below w.heap.size w w1 := by rw [← hw1]; exact b_alloc _ _
    have h0 : ByR w1 (fun b => w.heap.size ≤ b) (.slice (some ⟨w.heap.size, 0, none⟩) 0 0) [] := by rw [← hw1]; exact ByR.lit w (Nat.le_refl _)
    have hr1 := hr.new hb1
    have hs := hb1.size
    have HM := Lib.hid hm
    have hni : ∀ W, (binOp .eql 32 (.slice (some ad) m c) (.slice none 0 0)).run Try.prog W = .ok (.bool false) W := fun W => Lib.run_eql_slice_nil W _ _ (some ad) m c 0 0 Try.underlying32
    clear hr
    go_enter Try.func56, Try.ntmps56
    clear hm
    go_wp2_with (at_builtin; refine wpList_cpb _ rfl _ _ rfl w.heap.size ⟨w.heap.size, 0, none⟩ h0 hs rfl S (some ad) m c xs rfl HM.out hr1 h63 ?_)
    intro A' c' w2 h2 hb2
    have hb := below_new hb1 hb2
    clear h0 hr1 hb1 hb2 hw1
    go_wp2
    go_ret
    exact ⟨A', c', rfl, h2, hb⟩

/-- What appends, swaps give: a closure over bytes of its own. -/
def ClPost (sw : Bool) (xs : List Int) (w : World) (e : Ending) (w' : World) : Prop :=
  ∃ p v, e = .returned (Dk.C.fv ⟨sw, xs, p, v⟩) ∧ Dk.C.Ok ⟨sw, xs, p, v⟩ w' (fun b => w.heap.size ≤ b) ∧ Below w.heap.size w w'
theorem cl_made {w w1 : World} {xs : List Int} {A : Option Addr} {c : Nat} (h : ByR w1 (fun b => w.heap.size ≤ b) (.slice A xs.length c) xs) (hb : Below w.heap.size w w1) (sw : Bool) :
    Dk.C.Ok ⟨sw, xs, w1.heap.size, .slice A xs.length c⟩ (w1.alloc (.cells #[.slice A xs.length c] 32)) (fun b => w.heap.size ≤ b) ∧ Below w.heap.size w (w1.alloc (.cells #[.slice A xs.length c] 32)) :=
  ⟨⟨Blo.made _ _ _, hb.size, h.new (b_alloc _ _)⟩, below_new hb (b_alloc _ _)⟩
set_option maxRecDepth 100000 in
set_option maxHeartbeats 4000000 in
theorem pappends_any (w : World) (S : Nat → Prop) (A : Option Addr) (m c : Nat) (xs : List Int) (hm : xs.length = m) (hr : Rds w S A (u8s xs)) (h63 : m ≤ 140737488355328) :
    Calls Try.prog 45 #[.slice A m c] w (ClPost false xs w) := by
  have HA := Lib.hid (pclone_any w S A m c xs hm hr h63)
  clear hr hm
  go_enter Try.func45, Try.ntmps45
  go_wp2_with fail
  refine HA.out.mono ?_
  rintro e w1 ⟨A1, c1, rfl, h1, h2⟩
  have hP := cl_made h1 h2 false
  have HP : Hid (ClPost false xs w (.returned (.func (.func 57) #[] #[.pointer (some ⟨w1.heap.size, 0, none⟩)])) (w1.alloc (.cells #[.slice A1 xs.length c1] 32))) := Lib.hid ⟨w1.heap.size, _, rfl, hP.1, hP.2⟩
  clear h1 h2 hP
  go_wp2
  go_ret
  exact HP.out
set_option maxRecDepth 100000 in
set_option maxHeartbeats 4000000 in
theorem pswaps_any (w : World) (S : Nat → Prop) (A : Option Addr) (m c : Nat) (xs : List Int) (hm : xs.length = m) (hr : Rds w S A (u8s xs)) (h63 : m ≤ 140737488355328) :
    Calls Try.prog 48 #[.slice A m c] w (ClPost true xs w) := by
  have HA := Lib.hid (pclone_any w S A m c xs hm hr h63)
  clear hr hm
  go_enter Try.func48, Try.ntmps48
  go_wp2_with fail
  refine HA.out.mono ?_
  rintro e w1 ⟨A1, c1, rfl, h1, h2⟩
  have hP := cl_made h1 h2 true
  have HP : Hid (ClPost true xs w (.returned (.func (.func 58) #[] #[.pointer (some ⟨w1.heap.size, 0, none⟩)])) (w1.alloc (.cells #[.slice A1 xs.length c1] 32))) := Lib.hid ⟨w1.heap.size, _, rfl, hP.1, hP.2⟩
  clear h1 h2 hP
  go_wp2
  go_ret
  exact HP.out

/-- What a closure answers: what is there then, and how many units are left. -/
def GoPost (B : Nat) (R : List Int) (k : Nat) (w : World) (e : Ending) (w' : World) : Prop :=
  ∃ A c, e = .returned (.tuple #[.slice A R.length c, .int .i64 (k : Int)]) ∧ w'.ownsRow B 5 1 (.slice A R.length c) R.length (u8s R) ∧ Below B w w'
set_option maxRecDepth 100000 in
set_option maxHeartbeats 4000000 in
theorem papp1_any {w : World} {B : Nat} {R xs : List Int} {A : Option Addr} {c : Nat} (ho : w.ownsRow B 5 1 (.slice A R.length c) R.length (u8s R)) (hB : B ≤ w.heap.size) {fp : Nat → Prop} {p : Nat} {v : Value} (hx : Dk.C.Ok ⟨false, xs, p, v⟩ w fp)
    (k : Nat) (hk : k < 9223372036854775808) (hl : (R ++ xs.take k).length ≤ 16384) :
    Calls Try.prog 57 #[.slice A R.length c, .int .i64 (k : Int), .pointer (some ⟨p, 0, none⟩)] w (GoPost B (R ++ xs.take k) (k - xs.length) w) := by
  obtain ⟨i0, hi, hz0, hz1, hz2⟩ := info_parts Try.rowU8
  obtain ⟨Ax, cx, ev, hcx, hxr⟩ := hx.own.form
  replace hcx : xs.length ≤ cx := hcx
  have k0 := (var_cell hx.blo).1
  simp only at ev k0
  subst ev
  obtain ⟨n, hn⟩ : ∃ n, n = min k xs.length := ⟨_, rfl⟩
  have e1 : min (k : Int) (xs.length : Int) = (n : Int) := by omega
  have hsl := run_bto Ax xs.length cx n (by omega)
  have hwr : IntKind.i64.wrap ((k : Int) - (n : Int)) = ((k - xs.length : Nat) : Int) := by rw [IntWalk.i64_in _ (by omega)]; omega
  have ht : xs.take k = xs.take n := by
    rw [hn]
    rcases Nat.le_total k xs.length with h | h
    · rw [Nat.min_eq_left h]
    · rw [Nat.min_eq_right h, List.take_of_length_le h, List.take_length]
  rw [ht] at hl ⊢
  obtain ⟨ys, hys⟩ : ∃ ys, ys = xs.take n := ⟨_, rfl⟩
  have hyl : ys.length = n := by rw [hys, List.length_take]; omega
  have hyr : Rds w fp Ax (u8s ys) := by rw [hys, show u8s (xs.take n) = (u8s xs).take n from by simp [u8s]]; exact hxr.take n
  rw [← hys] at hl ⊢
  rw [List.length_append, hyl] at hl
  obtain ⟨q, hq⟩ : ∃ q, q = k - xs.length := ⟨_, rfl⟩
  rw [← hq] at hwr ⊢
  have HF : Hid (∀ v' w', w'.ownsRow B 5 1 v' (R.length + n) (u8s R ++ u8s ys) → w.grownBy w' (Value.slice A R.length c).ownBlock → GoPost B (R ++ ys) q w (.returned (.tuple #[v', .int .i64 (q : Int)])) w') := Lib.hid (fun v' w' h1 h2 => by
    obtain ⟨A', c', rfl, _, _⟩ := own_form h1
    have e : (R ++ ys).length = R.length + n := by simp [hyl]
    refine ⟨A', c', by rw [e], ?_, (Below.refl B w).grown h2 hB fun g hg => (World.ownsRow.lt ho g hg).1⟩
    rw [e, show u8s (R ++ ys) = u8s R ++ u8s ys from by simp [u8s]]
    exact h1)
  have HL := Lib.hid hyl
  clear hq hys hyl ht hn hxr hx
  go_enter Try.func57, Try.ntmps57
  go_wp2_with (at_builtin; refine wpList_app _ rfl _ _ 32 rfl B 5 i0 (.int .u8 0) 1 Try.underlying32 hi hz0 hz1 hz2 rfl _ _ _ rfl ho _ Ax n cx (u8s ys) rfl (by simpa using HL.out) hyr (one_ints _ _) (by unfold maxLen; omega) (by omega) hB ?_)
  intro v' w1 ho1 hg1 _
  have HG := Lib.hid (HF.out v' w1 ho1 hg1)
  clear ho1 hg1 ho hyr k0
  go_wp2
  go_ret2
  exact HG.out
set_option maxRecDepth 100000 in
set_option maxHeartbeats 4000000 in
theorem pswp1_any {w : World} {B : Nat} {R xs : List Int} {A : Option Addr} {c : Nat} (ho : w.ownsRow B 5 1 (.slice A R.length c) R.length (u8s R)) (hB : B ≤ w.heap.size) {fp : Nat → Prop} {p : Nat} {v : Value} (hx : Dk.C.Ok ⟨true, xs, p, v⟩ w fp)
    (k : Nat) (hk : k < 9223372036854775808) (hl : k ≠ 0 → xs.length ≤ 16384) :
    Calls Try.prog 58 #[.slice A R.length c, .int .i64 (k : Int), .pointer (some ⟨p, 0, none⟩)] w (GoPost B (if k = 0 then R else xs) (k - 1) w) := by
  by_cases hk0 : k = 0
  · subst hk0
    have HP : Hid (GoPost B R 0 w (.returned (.tuple #[.slice A R.length c, .int .i64 0])) w) := Lib.hid ⟨A, c, rfl, ho, Below.refl _ _⟩
    clear ho hx
    go_enter Try.func58, Try.ntmps58
    go_wp2
    go_ret2
    exact HP.out
  · rw [if_neg hk0]
    have hl := hl hk0
    obtain ⟨Ax, cx, ev, hcx, hxr⟩ := hx.own.form
    have k0 := (var_cell hx.blo).1
    simp only at ev k0
    subst ev
    have hwr : IntKind.i64.wrap ((k : Int) - 1) = ((k - 1 : Nat) : Int) := by rw [IntWalk.i64_in _ (by omega)]; omega
    obtain ⟨q, hq⟩ : ∃ q, q = k - 1 := ⟨_, rfl⟩
    rw [← hq] at hwr ⊢
    have HA := Lib.hid (pclone_any w fp Ax xs.length cx xs rfl hxr (by omega))
    clear hq ho hxr hx
    go_enter Try.func58, Try.ntmps58
    go_wp2_with fail
    refine HA.out.mono ?_
    rintro e w1 ⟨A1, c1, rfl, h1, h2⟩
    have HP : Hid (GoPost B xs q w (.returned (.tuple #[.slice A1 xs.length c1, .int .i64 (q : Int)])) w1) := Lib.hid ⟨A1, c1, rfl, own_base h1.own fun g hg => Nat.le_trans hB (h1.inn g hg), h2.mono hB⟩
    clear h1 h2
    go_wp2
    go_ret2
    exact HP.out
end Go.Proofs.Ytfllebfegngdhaa
