/- Layer 8, the document's own: Add. -/
import Derived.Test.YtedcgfcmhaeldaaQRef
import Derived.Test.YtedcgfcmhaeldaaBkP4
namespace Go.Proofs.Ytedcgfcmhaeldaa
set_option linter.unusedVariables false
set_option linter.unusedSimpArgs false
open Go.ChangeShapes Go.WideShapes Go.ChangeAt Go.RowKit

theorem ins_split {e : E.Ev} : ∀ {l : List E.Ev} {k : Nat}, k ≤ l.length → (∀ j (hj : j < l.length), j < k → D.bef (B.dotOf l[j]) (B.dotOf e) = true) → (∀ hk : k < l.length, D.bef (B.dotOf l[k]) (B.dotOf e) = false) → B.ins e l = l.take k ++ e :: l.drop k
  | [], k, hk, _, _ => by
    have : k = 0 := by simpa using hk
    subst this
    rfl
  | x :: l, 0, _, _, h2 => by
    have := h2 (by simp)
    simp only [List.getElem_cons_zero] at this
    unfold B.ins
    rw [this]
    rfl
  | x :: l, k + 1, hk, h1, h2 => by
    have h0 := h1 0 (by simp) (by omega)
    simp only [List.getElem_cons_zero] at h0
    unfold B.ins
    rw [if_pos h0, ins_split (l := l) (k := k) (by simpa using hk) (fun j hj hjk => h1 (j + 1) (by simpa using hj) (by omega)) (fun hk' => h2 (by simpa using hk'))]
    rfl
def sawR (saw : D.Dot → Bool) (a : D.Dot) (L : List D.Dot) : D.Dot → Bool := fun d => saw d || decide (d = a) || decide (d ∈ L)
theorem sawR_nil (saw : D.Dot → Bool) (a : D.Dot) : orD saw a = sawR saw a [] := by funext d; simp [orD, sawR]
theorem sawR_snoc (saw : D.Dot → Bool) (a : D.Dot) (L : List D.Dot) (x : D.Dot) : orD (sawR saw a L) x = sawR saw a (L ++ [x]) := by
  funext d
  simp only [orD, sawR, List.mem_append, List.mem_singleton, Bool.decide_or, Bool.or_assoc]
def keepR (a : D.Dot) (L : List D.Dot) (e : EvV) : Bool := !decide ((e.F 0, e.F 1) = a) && !decide ((e.F 0, e.F 1) ∈ L)
theorem notDot_eq (a b : Int) (e : EvV) : notDot a b e = !decide ((e.F 0, e.F 1) = (a, b)) := by
  unfold notDot
  congr 1
  rw [Bool.eq_iff_iff]
  simp
theorem keepR_nil (a b : Int) (m : List EvV) : m.filter (notDot a b) = m.filter (keepR (a, b) []) := List.filter_congr fun e _ => by rw [notDot_eq]; simp [keepR]
theorem keepR_snoc (a : D.Dot) (L : List D.Dot) (x y : Int) (m : List EvV) : (m.filter (keepR a L)).filter (notDot x y) = m.filter (keepR a (L ++ [(x, y)])) := by
  rw [List.filter_filter]
  refine List.filter_congr fun e _ => ?_
  rw [notDot_eq]
  rw [Bool.eq_iff_iff]
  simp only [keepR, Bool.and_eq_true, Bool.not_eq_true', decide_eq_false_iff_not, List.mem_append, List.mem_singleton]
  constructor
  · rintro ⟨h1, h2, h3⟩; exact ⟨h2, fun h => h.elim h3 h1⟩
  · rintro ⟨h1, h2⟩; exact ⟨fun h => h2 (.inr h), h1, fun h => h2 (.inl h)⟩
theorem MB.grown {w w' : World} {g : Nat} {T : TypeId} {Z : Nat → Prop} {saw : D.Dot → Bool} {m : List EvV} {t : Int} {q : Nat} (h : MB w g T Z saw m t) (hg : w.grownBy w' (some q)) (hq : q < g) : MB w' g T Z saw m t := by
  obtain ⟨cs, A, N, c, h⟩ := h
  exact ⟨cs, A, N, c, h.blo.grown hg (fun e => by injection e with e; omega), h.saw, h.hold, h.time, h.len, h.own.keep fun b hb hl => hg.block b hl (fun e => by injection e with e; rcases hb with hb | ⟨hb, _⟩ <;> omega)⟩
theorem keep_plain (m : List EvV) {a : D.Dot} {F : Nat → Int} {M : List D.Dot} (h : (F 0, F 1) = a) : plain (m.filter (keepR a M)) = (plain m).filter fun x => !decide (B.dotOf x = B.dotOf (F, M)) && !decide (B.dotOf x ∈ M) := by
  unfold plain
  rw [List.filter_map]
  congr 1
  refine List.filter_congr fun e _ => ?_
  have h1 : B.dotOf (F, M) = a := h
  rw [Function.comp, h1]
  rfl
theorem put_plain {m : List EvV} {k : Nat} {a : D.Dot} (hk : k ≤ m.length) (h1 : ∀ j (hj : j < m.length), j < k → D.bef (m[j].F 0, m[j].F 1) a = true) (h2 : ∀ hk : k < m.length, D.bef (m[k].F 0, m[k].F 1) a = false) (e : EvV) (he : (e.F 0, e.F 1) = a) : B.ins (e.F, e.M) (plain m) = plain (m.take k ++ [e] ++ m.drop k) := by
  have hg : ∀ j (hj : j < (plain m).length) (hj' : j < m.length), (plain m)[j] = (m[j].F, m[j].M) := fun j hj hj' => by simp [plain]
  rw [ins_split (k := k) (by rw [plain_len]; exact hk) (fun j hj hjk => ?_) (fun hk' => ?_)]
  · simp [plain, List.map_take, List.map_drop]
  · have hj' : j < m.length := by rwa [plain_len] at hj
    rw [hg j hj hj']
    simp only [B.dotOf, he]
    exact h1 j hj' hjk
  · have hj' : k < m.length := by rwa [plain_len] at hk'
    rw [hg k hk' hj']
    simp only [B.dotOf, he]
    exact h2 hj'
/-- The document's book, and the book that it is. -/
def MBook (w : World) (g : Nat) (T : TypeId) (Z : Nat → Prop) (b : B.Bk) : Prop := ∃ m, MB w g T Z b.saw m b.time ∧ plain m = b.hold
def RAddP (b : B.Bk) (e : E.Ev) (g : Nat) (T : TypeId) (Z : Nat → Prop) (w : World) (r : Ending) (w' : World) : Prop := r = .returned (.int .i64 (B.addE b e)) ∧ MBook w' g T (fun x => Z x ∨ w.heap.size ≤ x) (B.add b e) ∧ w.grownBy w' (some g)
/-- How far seeing what is removed has come. -/
def AddSt (g : Nat) (T : TypeId) (Z : Nat → Prop) (saw : D.Dot → Bool) (a : D.Dot) (M : List D.Dot) (m : List EvV) (t : Int) (i : Nat) (w0 w : World) : Prop :=
  MB w g T Z (sawR saw a (M.take i)) (m.filter (keepR a (M.take i))) t ∧ w0.grownBy w (some g)

set_option maxRecDepth 100000 in
set_option maxHeartbeats 8000000 in
theorem radd_any {S : Nat → Prop} {g : Nat} {T : TypeId} {Z : Nat → Prop} {b0 : B.Bk} {m : List EvV} (F : Nat → Int) (A : Option Addr) (n c : Nat) (M : List D.Dot) {w : World} (hM : MB w g T Z b0.saw m b0.time) (hpl : plain m = b0.hold) (hn : M.length = n) (hr : Rds w S A (dvs M)) (hS : ∀ b, S b → b ≠ g) (hl : n ≤ maxLen) (hml : m.length ≤ 900000) :
    Calls Try.prog 14 #[.pointer (some ⟨g, 0, none⟩), ev F A n c] w (RAddP b0 (F, M) g T Z w) := by
  obtain ⟨saw, hold, t⟩ := b0
  simp only at hM hpl
  subst hpl
  obtain ⟨w1, hw1⟩ : ∃ W, w.alloc (.cells (ecs F A n c) 43) = W := ⟨_, rfl⟩
  obtain ⟨ge, hge⟩ : ∃ q, q = w.heap.size := ⟨_, rfl⟩
  have hb1 : Below w.heap.size w w1 := by rw [← hw1]; exact b_alloc _ _
  have hE1 : Blo w1 ge 43 (ecs F A n c) := by rw [← hw1, hge]; exact Blo.made _ _ _
  have hgw : g < w.heap.size := by obtain ⟨cs, A, N, c, h⟩ := hM; exact h.blo.lt
  have hgg : ge ≠ g := by omega
  have HW := Lib.hid hw1
  have HGE := Lib.hid hge
  have HN := Lib.hid hn
  have hright := eright_any _ F A n c M w1 hn (hr.new hb1) hl
  obtain ⟨z0, z1, z2, z3, z4, z5, z6, z7, z8, z9, z10, z11, z12, z13⟩ := set14 hE1
  clear hw1 hge hn
  go_enter Try.func14, Try.ntmps14
  go_wp2_with fail
  rw [HW.out, ← HGE.out]
  go_wp2_with fail
  refine hright.mono ?_
  rintro e w2 ⟨rfl, hb2⟩
  have hM2 := (hM.new hb1).new hb2
  have hE2 := hE1.new hb2
  have hr2 := (hr.new hb1).new hb2
  have hb02 := below_new hb1 hb2
  clear hright z0 z1 z2 z3 z4 z5 z6 z7 z8 z9 z10 z11 z12 z13 hE1 hb1 hb2
  cases hq : E.right F M with
  | false =>
    have H2 : Hid (B.addE ⟨saw, plain m, t⟩ (F, M) = 2) := Lib.hid (by unfold B.addE; simp [hq])
    clear hq
    go_wp2
    go_ret
    exact ⟨ret_int H2.out.symm, ⟨m, by rw [B.add_no (by rw [H2.out]; decide)]; exact hM2.mono fun _ h => .inl h, by rw [B.add_no (by rw [H2.out]; decide)]⟩, gb_below hb02 _⟩
  | true =>
    obtain ⟨hmay, hmays, _, _, h96⟩ := B.right_may (e := (F, M)) hq
    have hmay' := D.may_iff.1 hmay
    simp only [B.dotOf] at hmay'
    obtain ⟨a, ha⟩ := Int.eq_ofNat_of_zero_le hmay'.1
    obtain ⟨b, hb⟩ := Int.eq_ofNat_of_zero_le (show 0 ≤ F 1 by omega)
    have ha8 : a < 8 := by omega
    have hb98 : b < 98 := by omega
    have HA := Lib.hid ha
    have HB := Lib.hid hb
    have HB' := HB
    have HQ := Lib.hid hq
    have HMAY := Lib.hid hmays
    clear hq hmay hmay' hmays ha hb
    obtain ⟨cs, A', N', c', hMk⟩ := hM2
    have HC : Hid (∀ V, Grows w2 V → V.cell? ⟨g, a * 98 + b, none⟩ = some (.bool (saw ((a : Int), (b : Int))))) := Lib.hid (fun V hV => ((hMk.blo.new hV).cell _).trans (hMk.saw.cell a b ha8 hb98))
    have HE0 : Hid (∀ V, Grows w2 V → V.cell? ⟨ge, 0, none⟩ = some (.int .i64 (a : Int))) := Lib.hid (fun V hV => by rw [← HA.out]; simpa using (hE2.new hV).cell 0)
    have HE1 : Hid (∀ V, Grows w2 V → V.cell? ⟨ge, 1, none⟩ = some (.int .i64 (b : Int))) := Lib.hid (fun V hV => by rw [← HB.out]; simpa using (hE2.new hV).cell 1)
    have ha1 : (a : Int) < 8 := by omega
    have hb1 : (b : Int) < 98 := by omega
    go_wp2_with fail
    refine wp_fam (n := 12) (size := 94) (D := [12, 13, 14, 15, 16, 17, 18, 19, 20, 21, 22, 23]) [(12, isV (.pointer (some ⟨g, 0, none⟩))), (13, isV (.pointer (some ⟨ge, 0, none⟩))), (14, isV (.pointer (some ⟨ge, 0, none⟩))), (15, isV (.int .i64 (a : Int))), (16, isV (.pointer (some ⟨ge, 0, none⟩))), (17, isV (.pointer (some ⟨ge, 1, none⟩))), (18, isV (.int .i64 (b : Int))), (19, isV (.pointer (some ⟨g, 0, none⟩))), (20, isV (.pointer (some ⟨g, 0, none⟩))), (21, isV (.pointer (some ⟨g, a * 98, none⟩))), (22, isV (.pointer (some ⟨g, a * 98 + b, none⟩))), (23, isV (.bool (saw ((a : Int), (b : Int)))))] (by kernel_rfl) (by rfl) (by kernel_rfl) ?_ ?_
    · simp only [List.take_succ_cons, List.take_zero, famAll]
      repeat' apply And.intro
      · intro f V hg hl
        simp [Oper.looksAt, Op.operands, Call.operands, famAt, famOf, isV] at hl
        simp [famWants, boolIs_bool, boolIs_undef, execOp, rho, go_sem, hl, famUpon, famOf, isV, Grows.refl]
      · intro f V hg hl
        simp [Oper.looksAt, Op.operands, Call.operands, famAt, famOf, isV] at hl
        simp [famWants, boolIs_bool, boolIs_undef, execOp, rho, go_sem, hl, famUpon, famOf, isV, Grows.refl]
      · intro f V hg hl
        simp [Oper.looksAt, Op.operands, Call.operands, famAt, famOf, isV] at hl
        simp [famWants, boolIs_bool, boolIs_undef, execOp, rho, go_sem, hl, famUpon, famOf, isV, Grows.refl]
      · intro f V hg hl
        have k := HE0.out V hg
        simp [Oper.looksAt, Op.operands, Call.operands, famAt, famOf, isV] at hl
        simp [famWants, boolIs_bool, boolIs_undef, execOp, rho, go_sem, hl, k, famUpon, famOf, isV, Grows.refl]
      · intro f V hg hl
        simp [Oper.looksAt, Op.operands, Call.operands, famAt, famOf, isV] at hl
        simp [famWants, boolIs_bool, boolIs_undef, execOp, rho, go_sem, hl, famUpon, famOf, isV, Grows.refl]
      · intro f V hg hl
        simp [Oper.looksAt, Op.operands, Call.operands, famAt, famOf, isV] at hl
        simp [famWants, boolIs_bool, boolIs_undef, execOp, rho, go_sem, hl, famUpon, famOf, isV, Grows.refl]
      · intro f V hg hl
        have k := HE1.out V hg
        simp [Oper.looksAt, Op.operands, Call.operands, famAt, famOf, isV] at hl
        simp [famWants, boolIs_bool, boolIs_undef, execOp, rho, go_sem, hl, k, famUpon, famOf, isV, Grows.refl]
      · intro f V hg hl
        simp [Oper.looksAt, Op.operands, Call.operands, famAt, famOf, isV] at hl
        simp [famWants, boolIs_bool, boolIs_undef, execOp, rho, go_sem, hl, famUpon, famOf, isV, Grows.refl]
      · intro f V hg hl
        simp [Oper.looksAt, Op.operands, Call.operands, famAt, famOf, isV] at hl
        simp [famWants, boolIs_bool, boolIs_undef, execOp, rho, go_sem, hl, famUpon, famOf, isV, Grows.refl]
      · intro f V hg hl
        simp [Oper.looksAt, Op.operands, Call.operands, famAt, famOf, isV] at hl
        simp [famWants, boolIs_bool, boolIs_undef, execOp, rho, go_sem, hl, ha1, ha8, famUpon, famOf, isV, Grows.refl]
      · intro f V hg hl
        simp [Oper.looksAt, Op.operands, Call.operands, famAt, famOf, isV] at hl
        simp [famWants, boolIs_bool, boolIs_undef, execOp, rho, go_sem, hl, hb1, hb98, famUpon, famOf, isV, Grows.refl]
      · intro f V hg hl
        have k := HC.out V hg
        simp [Oper.looksAt, Op.operands, Call.operands, famAt, famOf, isV] at hl
        simp [famWants, boolIs_bool, boolIs_undef, execOp, rho, go_sem, hl, k, famUpon, famOf, isV, Grows.refl]
      · trivial
    · intro u V hg hu
      have e23 : u 23 = .bool (saw ((a : Int), (b : Int))) := hu 23 (by decide)
      simp only [List.drop_succ_cons, List.drop_zero, fill, Act.put, List.setIfInBounds_toArray, List.set_cons_zero, List.set_cons_succ, e23]
      refine wpList_nil ?_
      have hM3 : MB V g T Z saw m t := ⟨cs, A', N', c', hMk.new hg⟩
      have hE3 := hE2.new hg
      have hr3 := hr2.new hg
      have hb03 := below_new hb02 hg
      clear hu e23 HC HE0 HE1 hMk hE2 hr2 hb02 hg
      cases hsw : saw ((a : Int), (b : Int)) with
      | true =>
        have H9 : Hid (B.addE ⟨saw, plain m, t⟩ (F, M) = 9) := Lib.hid (by unfold B.addE; simp [HQ.out, B.dotOf, HA.out, HB.out, hsw])
        clear hsw
        go_wp2
        go_ret
        exact ⟨ret_int H9.out.symm, ⟨m, by rw [B.add_no (by rw [H9.out]; decide)]; exact hM3.mono fun _ h => .inl h, by rw [B.add_no (by rw [H9.out]; decide)]⟩, gb_below hb03 _⟩
      | false =>
        have HSW := Lib.hid hsw
        clear hsw
        have hsee := see_any hM3 ha8 hb98 hml
        have k0 : V.cell? ⟨ge, 0, none⟩ = some (.int .i64 (a : Int)) := by rw [← HA.out]; simpa using hE3.cell 0
        have k1 : V.cell? ⟨ge, 1, none⟩ = some (.int .i64 (b : Int)) := by rw [← HB.out]; simpa using hE3.cell 1
        go_wp2_with fail
        refine hsee.mono ?_
        rintro e w4 ⟨rfl, hM4, hg4⟩
        have hE4 := hE3.grown hg4 (fun e => by injection e with e; exact hgg e)
        have hr4 := hr3.grown hg4 (fun b hb _ e => by injection e with e; exact hS b hb e)
        have hgb4 : w.grownBy w4 (some g) := gb_trans (gb_below hb03 _) hg4
        rw [sawR_nil, keepR_nil] at hM4
        have y13 : w4.cell? ⟨ge, 13, none⟩ = some (.slice A n c) := by simpa using hE4.cell 13
        clear hsee k0 k1 hM3 hE3 hr3 hb03 hg4
        go_wp2_with fail
        clear y13
        go_loopw [31] (fun iv wr => ∃ i : Nat, iv = .int .i64 i ∧ i ≤ n ∧ AddSt g T Z saw ((a : Int), (b : Int)) M m t i w4 wr) (fun iv _ => n - (intOf iv).toNat)
        case atStart => exact ⟨0, rfl, by omega, by simpa using hM4, World.grownBy.refl _ _⟩
        case round =>
          obtain ⟨i, rfl, hi, hMi, hgi⟩ := hrel
          by_cases hlt : i < n
          · have hlt' : i < M.length := by rw [HN.out]; exact hlt
            obtain ⟨xd, rfl, _, y0, y1⟩ := (hr4.grown hgi (fun b hb _ e => by injection e with e; exact hS b hb e)).dot hlt'
            obtain ⟨dd, hdd⟩ : ∃ d, d = M[i] := ⟨_, rfl⟩
            rw [← hdd] at y0 y1
            have hdm := D.may_iff.1 (HMAY.out dd (by rw [hdd]; exact List.getElem_mem hlt'))
            have HTK : Hid (M.take (i + 1) = M.take i ++ [dd]) := Lib.hid (by rw [List.take_succ_eq_append_getElem hlt', ← hdd])
            obtain ⟨d1, d2⟩ := dd
            simp only at y0 y1 hdm
            clear hdd
            obtain ⟨x1, rfl⟩ := Int.eq_ofNat_of_zero_le hdm.1
            obtain ⟨x2, rfl⟩ := Int.eq_ofNat_of_zero_le (show 0 ≤ d2 by omega)
            have hx1 : x1 < 8 := by omega
            have hx2 : x2 < 98 := by omega
            obtain ⟨w5, hw5⟩ : ∃ W, wr.alloc (.cells #[.int .i64 (x1 : Int), .int .i64 (x2 : Int)] 39) = W := ⟨_, rfl⟩
            have hb5 : Below wr.heap.size wr w5 := by rw [← hw5]; exact b_alloc _ _
            have hsee := see_any (hMi.new hb5) hx1 hx2 (Nat.le_trans (List.length_filter_le _ _) hml)
            have HW5 := Lib.hid hw5
            clear hw5 hdm
            go_wp2_with fail
            rw [HW5.out]
            refine hsee.mono ?_
            rintro e w6 ⟨rfl, hM6, hg6⟩
            rw [sawR_snoc, keepR_snoc, ← HTK.out] at hM6
            have hgi6 : w4.grownBy w6 (some g) := gb_trans (gb_trans hgi (gb_below hb5 _)) hg6
            clear hsee y0 y1
            go_wp2
            go_roundw
            case rel => exact ⟨i + 1, by go_num, by omega, hM6, hgi6⟩
            case measure => simp [intOf]; omega
          · have HI : Hid (M.take i = M) := Lib.hid (List.take_of_length_le (by rw [HN.out]; omega))
            rw [HI.out] at hMi
            have hgb5 := gb_trans hgb4 hgi
            have hE5 := hE4.grown hgi (fun e => by injection e with e; exact hgg e)
            have hr5 := hr4.grown hgi (fun b hb _ e => by injection e with e; exact hS b hb e)
            obtain ⟨w7, hw7⟩ : ∃ W, W = wr := ⟨_, rfl⟩
            subst hw7
            obtain ⟨m2, hm2⟩ : ∃ X, X = m.filter (keepR ((a : Int), (b : Int)) M) := ⟨_, rfl⟩
            rw [← hm2] at hMi
            have HM2 := Lib.hid hm2
            have hm2l : m2.length ≤ 900000 := by rw [hm2]; exact Nat.le_trans (List.length_filter_le _ _) hml
            obtain ⟨cs5, Ah, Nh, ch, hK⟩ := hMi
            have HNh := Lib.hid hK.len
            have hNh : Nh ≤ 900000 := by rw [hK.len]; exact hm2l
            clear hm2 hM4 hE4 hr4 hgb4 hgi HI
            go_wp2_with fail
            go_loopw [7] (fun av wr => ∃ k : Nat, av = .int .i64 k ∧ k ≤ Nh ∧ Hid (∀ j (hj : j < m2.length), j < k → D.bef (m2[j].F 0, m2[j].F 1) ((a : Int), (b : Int)) = true) ∧ Below w7.heap.size w7 wr) (fun av _ => Nh - (intOf av).toNat)
            case atStart => exact ⟨0, rfl, by omega, Lib.hid (fun j _ hj => by omega), Below.refl _ _⟩
            case round =>
              obtain ⟨k, rfl, hk, HK, hbk⟩ := hrel
              have hKr := hK.new hbk
              have hEr := hE5.new hbk
              have HH : Hid (∀ V, Grows wr V → V.cell? ⟨g, 784, none⟩ = some (.slice Ah Nh ch)) := Lib.hid (fun V hV => ((hKr.blo.new hV).cell _).trans hKr.hold)
              have HE0 : Hid (∀ V, Grows wr V → V.cell? ⟨ge, 0, none⟩ = some (.int .i64 (a : Int))) := Lib.hid (fun V hV => by rw [← HA.out]; simpa using (hEr.new hV).cell 0)
              have HE1 : Hid (∀ V, Grows wr V → V.cell? ⟨ge, 1, none⟩ = some (.int .i64 (b : Int))) := Lib.hid (fun V hV => by rw [← HB.out]; simpa using (hEr.new hV).cell 1)
              by_cases hkt : k < Nh
              · have hkt' : k < m2.length := by rw [← HNh.out]; exact hkt
                have hkt1 : (k : Int) < (Nh : Int) := by omega
                obtain ⟨hd, rfl, _, x0, xk, _⟩ := hKr.own.erds.ev hkt'
                have x1 : wr.cell? ⟨(hd.add (k * 14)).block, (hd.add (k * 14)).off + 1, none⟩ = some (.int .i64 (m2[k].F 1)) := xk 1 _ (by omega) rfl
                obtain ⟨f0, hf0⟩ : ∃ z, z = m2[k].F 0 := ⟨_, rfl⟩
                obtain ⟨f1, hf1⟩ : ∃ z, z = m2[k].F 1 := ⟨_, rfl⟩
                rw [← hf0] at x0
                rw [← hf1] at x1
                have HX0 : Hid (∀ V, Grows wr V → V.cell? (hd.add (k * 14)) = some (.int .i64 f0)) := Lib.hid (fun V hV => cell_up x0 hV)
                have HX1 : Hid (∀ V, Grows wr V → V.cell? ⟨(hd.add (k * 14)).block, (hd.add (k * 14)).off + 1, none⟩ = some (.int .i64 f1)) := Lib.hid (fun V hV => cell_up x1 hV)
                have HFF : Hid (D.bef (m2[k].F 0, m2[k].F 1) ((a : Int), (b : Int)) = D.bef (f0, f1) ((a : Int), (b : Int))) := Lib.hid (by rw [hf0, hf1])
                clear xk x0 x1 hf0 hf1
                go_wp2_with fail
                refine wp_fam (n := 20) (size := 94) (D := [39, 40, 41, 42, 43, 44, 45, 46, 47, 48, 49, 50, 51, 52, 53, 54, 55, 56, 57, 58]) [(39, isV (.int .i64 (k : Int))), (40, isV (.pointer (some ⟨g, 0, none⟩))), (41, isV (.pointer (some ⟨g, 0, none⟩))), (42, isV (.pointer (some ⟨g, 784, none⟩))), (43, isV (.slice (some hd) Nh ch)), (44, isV (.int .i64 (Nh : Int))), (45, isV (.bool true)), (46, isV (.bool true)), (47, isV (.pointer (some ⟨g, 0, none⟩))), (48, isV (.pointer (some ⟨g, 0, none⟩))), (49, isV (.pointer (some ⟨g, 784, none⟩))), (50, isV (.slice (some hd) Nh ch)), (51, isV (.int .i64 (k : Int))), (52, isV (.pointer (some (hd.add (k * 14))))), (53, isV (.pointer (some (hd.add (k * 14))))), (54, isV (.agg #[.int .i64 f0, .int .i64 f1])), (55, isV (.pointer (some ⟨ge, 0, none⟩))), (56, isV (.agg #[.int .i64 (a : Int), .int .i64 (b : Int)])), (57, isV (.bool (D.bef (f0, f1) ((a : Int), (b : Int))))), (58, isV (.bool (D.bef (f0, f1) ((a : Int), (b : Int)))))] (by kernel_rfl) (by rfl) (by kernel_rfl) ?_ ?_
                · simp only [List.take_succ_cons, List.take_zero, famAll]
                  repeat' apply And.intro
                  · intro f V hg hl
                    simp [Oper.looksAt, Op.operands, Call.operands, famAt, famOf, isV] at hl
                    simp [famWants, boolIs_bool, boolIs_undef, execOp, rho, go_sem, hl, famUpon, famOf, isV, Grows.refl]
                  · intro f V hg hl
                    simp [Oper.looksAt, Op.operands, Call.operands, famAt, famOf, isV] at hl
                    simp [famWants, boolIs_bool, boolIs_undef, execOp, rho, go_sem, hl, famUpon, famOf, isV, Grows.refl]
                  · intro f V hg hl
                    simp [Oper.looksAt, Op.operands, Call.operands, famAt, famOf, isV] at hl
                    simp [famWants, boolIs_bool, boolIs_undef, execOp, rho, go_sem, hl, famUpon, famOf, isV, Grows.refl]
                  · intro f V hg hl
                    simp [Oper.looksAt, Op.operands, Call.operands, famAt, famOf, isV] at hl
                    simp [famWants, boolIs_bool, boolIs_undef, execOp, rho, go_sem, hl, famUpon, famOf, isV, Grows.refl]
                  · intro f V hg hl
                    have kk := HH.out V hg
                    simp [Oper.looksAt, Op.operands, Call.operands, famAt, famOf, isV] at hl
                    simp [famWants, boolIs_bool, boolIs_undef, execOp, rho, go_sem, hl, kk, famUpon, famOf, isV, Grows.refl]
                  · intro f V hg hl
                    simp [Oper.looksAt, Op.operands, Call.operands, famAt, famOf, isV] at hl
                    simp [famWants, boolIs_bool, boolIs_undef, execOp, rho, go_sem, hl, famUpon, famOf, isV, Grows.refl]
                  · intro f V hg hl
                    simp [Oper.looksAt, Op.operands, Call.operands, famAt, famOf, isV] at hl
                    simp [famWants, boolIs_bool, boolIs_undef, execOp, rho, go_sem, hl, hkt1, hkt, famUpon, famOf, isV, Grows.refl]
                  · intro f V hg hl
                    simp [Oper.looksAt, Op.operands, Call.operands, famAt, famOf, isV] at hl
                    simp [famWants, boolIs_bool, boolIs_undef, execOp, rho, go_sem, hl, famUpon, famOf, isV, Grows.refl]
                  · intro f V hg hl
                    simp [Oper.looksAt, Op.operands, Call.operands, famAt, famOf, isV] at hl
                    simp [famWants, boolIs_bool, boolIs_undef, execOp, rho, go_sem, hl, famUpon, famOf, isV, Grows.refl]
                  · intro f V hg hl
                    simp [Oper.looksAt, Op.operands, Call.operands, famAt, famOf, isV] at hl
                    simp [famWants, boolIs_bool, boolIs_undef, execOp, rho, go_sem, hl, famUpon, famOf, isV, Grows.refl]
                  · intro f V hg hl
                    simp [Oper.looksAt, Op.operands, Call.operands, famAt, famOf, isV] at hl
                    simp [famWants, boolIs_bool, boolIs_undef, execOp, rho, go_sem, hl, famUpon, famOf, isV, Grows.refl]
                  · intro f V hg hl
                    have kk := HH.out V hg
                    simp [Oper.looksAt, Op.operands, Call.operands, famAt, famOf, isV] at hl
                    simp [famWants, boolIs_bool, boolIs_undef, execOp, rho, go_sem, hl, kk, famUpon, famOf, isV, Grows.refl]
                  · intro f V hg hl
                    simp [Oper.looksAt, Op.operands, Call.operands, famAt, famOf, isV] at hl
                    simp [famWants, boolIs_bool, boolIs_undef, execOp, rho, go_sem, hl, famUpon, famOf, isV, Grows.refl]
                  · intro f V hg hl
                    simp [Oper.looksAt, Op.operands, Call.operands, famAt, famOf, isV] at hl
                    simp [famWants, boolIs_bool, boolIs_undef, execOp, rho, go_sem, hl, hkt1, hkt, famUpon, famOf, isV, Grows.refl]
                  · intro f V hg hl
                    simp [Oper.looksAt, Op.operands, Call.operands, famAt, famOf, isV] at hl
                    simp [famWants, boolIs_bool, boolIs_undef, execOp, rho, go_sem, hl, famUpon, famOf, isV, Grows.refl]
                  · intro f V hg hl
                    have k0 := HX0.out V hg
                    have k1 := HX1.out V hg
                    simp [Oper.looksAt, Op.operands, Call.operands, famAt, famOf, isV] at hl
                    simp [famWants, boolIs_bool, boolIs_undef, execOp, rho, go_sem, hl, k0, k1, famUpon, famOf, isV, Grows.refl]
                  · intro f V hg hl
                    simp [Oper.looksAt, Op.operands, Call.operands, famAt, famOf, isV] at hl
                    simp [famWants, boolIs_bool, boolIs_undef, execOp, rho, go_sem, hl, famUpon, famOf, isV, Grows.refl]
                  · intro f V hg hl
                    have k0 := HE0.out V hg
                    have k1 := HE1.out V hg
                    simp [Oper.looksAt, Op.operands, Call.operands, famAt, famOf, isV] at hl
                    simp [famWants, boolIs_bool, boolIs_undef, execOp, rho, go_sem, hl, k0, k1, famUpon, famOf, isV, Grows.refl]
                  · intro f V hg hl
                    simp [Oper.looksAt, Op.operands, Call.operands, famAt, famOf, isV] at hl
                    simp [famWants, boolIs_bool, boolIs_undef, execOp, rho, go_sem, hl, famUpon, famOf, isV, Grows.refl]
                    refine (rbefore_any f0 f1 (a : Int) (b : Int) V).mono ?_
                    rintro e w'' ⟨rfl, hb'⟩
                    exact ⟨rfl, hb'⟩
                  · intro f V hg hl
                    simp [Oper.looksAt, Op.operands, Call.operands, famAt, famOf, isV] at hl
                    simp [famWants, boolIs_bool, boolIs_undef, execOp, rho, go_sem, hl, famUpon, famOf, isV, Grows.refl]
                  · trivial
                · intro u V hg hu
                  have e58 : u 58 = .bool (D.bef (f0, f1) ((a : Int), (b : Int))) := hu 58 (by decide)
                  simp only [List.drop_succ_cons, List.drop_zero, fill, Act.put, List.setIfInBounds_toArray, List.set_cons_zero, List.set_cons_succ, e58]
                  refine wpList_nil ?_
                  have hb7V := below_new hbk hg
                  clear hu e58 HH HE0 HE1 HX0 HX1
                  cases hbf : D.bef (f0, f1) ((a : Int), (b : Int)) with
                  | true =>
                    have HK2 : Hid (∀ j (hj : j < m2.length), j < k + 1 → D.bef (m2[j].F 0, m2[j].F 1) ((a : Int), (b : Int)) = true) := Lib.hid (fun j hj hjk => by
                      by_cases h : j < k
                      · exact HK.out j hj h
                      · obtain rfl : j = k := by omega
                        exact HFF.out.trans hbf)
                    clear hbf
                    go_wp2
                    go_roundw
                    case rel => exact ⟨k + 1, by go_num, by omega, HK2, hb7V⟩
                    case measure => simp [intOf]; omega
                  | false =>
                    have HX : Hid (∀ hk : k < m2.length, D.bef (m2[k].F 0, m2[k].F 1) ((a : Int), (b : Int)) = false) := Lib.hid (fun _ => HFF.out.trans hbf)
                    clear hbf
                    have hKV := hK.new hb7V
                    have hEV := hE5.new hb7V
                    have hrV := hr5.new hb7V
                    have hgbV : w.grownBy V (some g) := gb_trans hgb5 (gb_below hb7V _)
                    have hgV : g < V.heap.size := hKV.blo.lt
                    have hNc : Nh ≤ ch := by
                      obtain ⟨A0, c0, e0, hle, _⟩ := hKV.own.row.form
                      simp only [Value.slice.injEq] at e0
                      rw [HNh.out, e0.2.2]
                      exact hle
                    have hcs : cs5[784]? = some (.slice (some hd) Nh ch) := hKV.hold
                    obtain ⟨w8, hw8⟩ : ∃ W, V.alloc (.cells #[] 43) = W := ⟨_, rfl⟩
                    have hb8 : Below V.heap.size V w8 := by rw [← hw8]; exact b_alloc _ _
                    have hs8 := hb8.size
                    have hR8 : ERow w8 V.heap.size (.slice (some ⟨V.heap.size, 0, none⟩) 0 0) [] := by rw [← hw8]; exact ERow.lit0 _
                    have hR8' := hR8
                    have hO8 : EOwn w8 (aS g Z V) V.heap.size (.slice (some ⟨V.heap.size, 0, none⟩) 0 0) [] := ⟨hR8, fun e he => by cases he⟩
                    have hto := run_eto (some hd) Nh ch k (Nat.le_trans hk hNc) w8
                    have x784 : w8.cell? ⟨g, 784, none⟩ = some (.slice (some hd) Nh ch) := ((hKV.blo.new hb8).cell _).trans hKV.hold
                    have hrd8 : Rds w8 (fun _ => True) (some hd) (evs (m2.take k)) := ((hKV.own.erds.take k).new hb8).1
                    have hdt8 : ∀ e ∈ m2.take k, Rds w8 (fun b => aS g Z V b ∧ some b ≠ (Value.slice (some ⟨V.heap.size, 0, none⟩) 0 0).ownBlock) e.A (dvs e.M) := fun e he => ((hKV.own.dots e (List.mem_of_mem_take he)).old.new hb8).mono fun b hb => ⟨⟨hb.1.1.1, .inl hb.1.1.2⟩, fun e' => by
                      have h1 := hb.2
                      simp [Value.ownBlock] at e'
                      omega⟩
                    have hlk : (m2.take k).length = k := by rw [List.length_take, ← HNh.out]; omega
                    have HDR : Hid (ERds V (fun b => g < b) (if ch = k then (some hd) else (some hd).map (·.add (k * 14))) (m2.drop k)) := Lib.hid ((hKV.own.erdsS.mono fun b hb => hb.elim id fun h => h.1).from (by rw [← HNh.out]; exact hNc))
                    have HFR : Hid (∀ W, (Instr.slice 22 (.slice (some hd) Nh ch) (some (.int .i64 (k : Int))) none none).run Try.prog W = .ok (.slice (if ch = k then (some hd) else (some hd).map (·.add (k * 14))) (Nh - k) (ch - k)) W) := Lib.hid (fun W => run_efrom (some hd) Nh ch k hk W)
                    have HDZ : Hid (∀ e ∈ m2.drop k, Rds V (fun b => g < b ∧ Z b) e.A (dvs e.M)) := Lib.hid (fun e he => (hKV.own.dots e (List.mem_of_mem_drop he)).mono fun b hb => hb.1)
                    have hwV : w.heap.size ≤ V.heap.size := hgbV.size
                    obtain ⟨Ad, hAd⟩ : ∃ x, x = if ch = k then (some hd) else (some hd).map (·.add (k * 14)) := ⟨_, rfl⟩
                    obtain ⟨nd, hnd⟩ : ∃ x, x = Nh - k := ⟨_, rfl⟩
                    obtain ⟨cd, hcd⟩ : ∃ x, x = ch - k := ⟨_, rfl⟩
                    rw [← hAd] at HDR HFR
                    rw [← hnd, ← hcd] at HFR
                    have HND : Hid ((m2.drop k).length = nd) := Lib.hid (by rw [List.length_drop, ← HNh.out, hnd])
                    have HNK : Hid (k + 1 + nd = Nh + 1) := Lib.hid (by omega)
                    have HW8 := Lib.hid hw8
                    have HS8 : Hid (w8.heap.size = V.heap.size + 1) := Lib.hid (by rw [← hw8]; simp)
                    have HLK := Lib.hid hlk
                    rw [← hw8] at hto x784 hrd8 hR8 hs8
                    have hk6 : ([] : List EvV).length + k ≤ 1000000 := by simp; omega
                    clear hw8 hAd hnd hcd hlk hKr hEr hb7V
                    go_wp2_with (at_builtin; refine wpList_eapp' _ rfl _ _ rfl V.heap.size (.slice (some ⟨V.heap.size, 0, none⟩) 0 0) [] rfl hR8 _ (some hd) k ch (m2.take k) rfl HLK.out hrd8 hk6 hs8 ?_)
                    intro v9 w9 hr9 hg9 hv9
                    rw [HW8.out] at hg9
                    rw [← HS8.out] at hv9
                    have hO9 := hO8.app hr9 hg9 hv9 hdt8
                    obtain ⟨A8, c8, rfl, _⟩ := hr9.form
                    rw [List.nil_append] at hO9
                    rw [HLK.out] at hO9 hr9 ⊢
                    have hK9 : Kpt V w9 g none := AX.grow hgV (Kpt.of hb8) hR8' hg9
                    have hB9 : Blo w9 g T cs5 := (hKV.blo.new hb8).grown hg9 (fun e => by simp [Value.ownBlock] at e; omega)
                    have HX0 : Hid (∀ f, AX V g T Z cs5 F n M A8 k c8 (m2.take k) (m2.drop k) (Nh + 1) (fun _ => false) f w9) := Lib.hid (fun f => ⟨hK9, fun e => (by cases e), fun e => (by cases e), fun _ => hO9, fun e => (by cases e), fun e => (by cases e), fun _ => hB9⟩)
                    have HC : Hid (∀ W, Kpt V W g none → Calls Try.prog 12 #[ev F A n c] W (EvPost F M W)) := Lib.hid (fun W hW => ecopy_any S F A n c M W HN.out (hrV.keep fun b hb hl => hW.block b hl (hS b hb) (by simp)) (by have h : M.length ≤ 96 := h96; rw [HN.out] at h; omega))
                    have HEV := Lib.hid hEV
                    clear hO8 hto x784 hrd8 hR8 hdt8 hr9 hg9 hv9 hK9 hB9 hO9 hb8 hs8 hrV
                    go_wp2_with fail
                    refine wp_famY (size := 94) (D := [69, 70, 71, 72, 73, 74, 75, 76, 77, 78, 79, 80, 81, 82, 83]) [2, 3, 4, 5, 9, 12, 15] [72, 73, 74, 81] [(69, isV (.pointer (some ⟨g, 0, none⟩))), (70, isV (.slice A8 k c8)), (71, isV (ev F A n c)), (75, isV (.pointer (some ⟨g, 0, none⟩))), (76, isV (.pointer (some ⟨g, 0, none⟩))), (77, isV (.pointer (some ⟨g, 784, none⟩))), (78, isV (.slice (some hd) Nh ch)), (79, isV (.int .i64 (k : Int))), (80, isV (.slice Ad nd cd)), (82, isV (.pointer (some ⟨g, 0, none⟩))), (83, isV (.pointer (some ⟨g, 784, none⟩)))] (AX V g T Z cs5 F n M A8 k c8 (m2.take k) (m2.drop k) (Nh + 1)) AX.up (by kernel_rfl) (by rfl) (by kernel_rfl) (HX0.out _) ?_ ?_
                    · simp only [famAllY]
                      repeat' apply And.intro
                      · rw [if_neg (by decide)]
                        intro f W hl
                        simp [Oper.looksAt, Op.operands, Call.operands, famAt, famOf, isV] at hl
                        simp [famWants, execOp, rho, go_sem, hl, famUpon, famOf, isV, Grows.refl]
                      · rw [if_neg (by decide)]
                        intro f W hl
                        simp [Oper.looksAt, Op.operands, Call.operands, famAt, famOf, isV] at hl
                        simp [famWants, execOp, rho, go_sem, hl, famUpon, famOf, isV, Grows.refl]
                      · rw [if_pos (by decide)]
                        intro L f W hi hcl hwt hX hl
                        simp [Oper.looksAt, Op.operands, Call.operands, famAt, famOf, isV] at hl
                        have hEW : Blo W ge 43 (ecs F A n c) := HEV.out.keep (hX.1.block ge HEV.out.lt hgg (by simp))
                        obtain ⟨c0, c1, c2, c3, c4, c5, c6, c7, c8, c9, c10, c11, c12, c13⟩ := set14 hEW
                        simp [famWants, execOp, rho, go_sem, hl, c0, c1, c2, c3, c4, c5, c6, c7, c8, c9, c10, c11, c12, c13, famUpon, famOf, isV]
                        exact hX.pass (by decide) (by decide)
                      · rw [if_pos (by decide)]
                        intro L f W hi hcl hwt hX hl
                        simp [Oper.looksAt, Op.operands, Call.operands, famAt, famOf, isV] at hl
                        have h4 : L 4 = false := by
                          cases e : L 4 with
                          | false => rfl
                          | true => rw [hcl 4 3 (by kernel_rfl) e] at hi; cases hi
                        have h5 : L 5 = false := by
                          cases e : L 5 with
                          | false => rfl
                          | true => rw [hcl 5 4 (by kernel_rfl) e] at h4; cases h4
                        have h12 : L 12 = false := by
                          cases e : L 12 with
                          | false => rfl
                          | true => rw [hcl 12 5 (by kernel_rfl) e] at h5; cases h5
                        have h15 : L 15 = false := by
                          cases e : L 15 with
                          | false => rfl
                          | true => rw [hcl 15 12 (by kernel_rfl) e] at h12; cases h12
                        have hc := HC.out W hX.1
                        simp [famWants, execOp, rho, go_sem, hl, famUpon, famOf, isV]
                        refine hc.mono ?_
                        rintro e w'' ⟨A', c', rfl, hcp, hg'⟩
                        have hfin := hX.cal h4 h5 h12 h15 hcp hg'
                        rw [HN.out]
                        exact ⟨_, rfl, hfin⟩
                      · rw [if_pos (by decide)]
                        intro L f W hi hcl hwt hX hl
                        simp [Oper.looksAt, Op.operands, Call.operands, famAt, famOf, isV] at hl
                        have h5 : L 5 = false := by
                          cases e : L 5 with
                          | false => rfl
                          | true => rw [hcl 5 4 (by kernel_rfl) e] at hi; cases hi
                        have h12 : L 12 = false := by
                          cases e : L 12 with
                          | false => rfl
                          | true => rw [hcl 12 5 (by kernel_rfl) e] at h5; cases h5
                        have h15 : L 15 = false := by
                          cases e : L 15 with
                          | false => rfl
                          | true => rw [hcl 15 12 (by kernel_rfl) e] at h12; cases h12
                        have h3 : L 3 = true := hwt 3 (by kernel_rfl)
                        obtain ⟨A', c', e72, hcp⟩ := hX.2.1 h3 h5
                        simp [famWants, execOp, rho, go_sem, hl, e72, famUpon, famOf, isV]
                        exact hX.lit h5 h12 h15 hcp
                      · rw [if_pos (by decide)]
                        intro L f W hi hcl hwt hX hl
                        simp [Oper.looksAt, Op.operands, Call.operands, famAt, famOf, isV] at hl
                        have h12 : L 12 = false := by
                          cases e : L 12 with
                          | false => rfl
                          | true => rw [hcl 12 5 (by kernel_rfl) e] at hi; cases hi
                        have h15 : L 15 = false := by
                          cases e : L 15 with
                          | false => rfl
                          | true => rw [hcl 15 12 (by kernel_rfl) e] at h12; cases h12
                        have h4 : L 4 = true := hwt 4 (by kernel_rfl)
                        obtain ⟨b9, A', c', e73, hBb, hcp⟩ := hX.2.2.1 h4 hi
                        have hrw := hX.2.2.2.1 hi
                        have hBb' : Blo W b9 43 (EvV.cells ⟨F, M, A', c'⟩) := by
                          unfold EvV.cells
                          simp only
                          rw [HN.out]
                          exact hBb
                        obtain ⟨v', W', hrun, hR', hg', hv'⟩ := run_eapp W V.heap.size 22 (.slice A8 k c8) (m2.take k) hrw.row (fun _ => True) ⟨b9, 0, none⟩ 1 1 [⟨F, M, A', c'⟩] rfl (blo_ers _ hBb') (by rw [HLK.out]; omega) hX.1.size
                        obtain ⟨A2, c2, rfl, _⟩ := hR'.form
                        have hlen : (m2.take k ++ [(⟨F, M, A', c'⟩ : EvV)]).length = k + 1 := by rw [List.length_append, HLK.out]; rfl
                        rw [hlen] at hrun hR' hv'
                        refine ⟨fun _ => ?_, fun hh => ?_⟩
                        · simp only [execOp, resolve, invoke, builtin, rho, Sem.run_bind, Sem.run_pure, Result.andThen_ok, List.map_toArray, List.map_cons, List.map_nil, hl, e73, hrun, famUpon]
                          exact ⟨fun d hd => by cases hd; exact trivial, hX.app hgV hi h12 h15 hcp hR' hg' hv'⟩
                        · simp [famWants] at hh
                      · rw [if_neg (by decide)]
                        intro f W hl
                        simp [Oper.looksAt, Op.operands, Call.operands, famAt, famOf, isV] at hl
                        simp [famWants, execOp, rho, go_sem, hl, famUpon, famOf, isV, Grows.refl]
                      · rw [if_neg (by decide)]
                        intro f W hl
                        simp [Oper.looksAt, Op.operands, Call.operands, famAt, famOf, isV] at hl
                        simp [famWants, execOp, rho, go_sem, hl, famUpon, famOf, isV, Grows.refl]
                      · rw [if_neg (by decide)]
                        intro f W hl
                        simp [Oper.looksAt, Op.operands, Call.operands, famAt, famOf, isV] at hl
                        simp [famWants, execOp, rho, go_sem, hl, famUpon, famOf, isV, Grows.refl]
                      · rw [if_pos (by decide)]
                        intro L f W hi hcl hwt hX hl
                        simp [Oper.looksAt, Op.operands, Call.operands, famAt, famOf, isV] at hl
                        have h11 : L 11 = false := by
                          cases e : L 11 with
                          | false => rfl
                          | true => rw [hcl 11 9 (by kernel_rfl) e] at hi; cases hi
                        have h12 : L 12 = false := by
                          cases e : L 12 with
                          | false => rfl
                          | true => rw [hcl 12 11 (by kernel_rfl) e] at h11; cases h11
                        have h15 : L 15 = false := by
                          cases e : L 15 with
                          | false => rfl
                          | true => rw [hcl 15 12 (by kernel_rfl) e] at h12; cases h12
                        have k1 : W.cell? ⟨g, 784, none⟩ = some (.slice (some hd) Nh ch) := ((hX.2.2.2.2.2.2 h15).cell 784).trans hcs
                        simp [famWants, execOp, rho, go_sem, hl, k1, famUpon, famOf, isV]
                        exact hX.pass (by decide) (by decide)
                      · rw [if_neg (by decide)]
                        intro f W hl
                        simp [Oper.looksAt, Op.operands, Call.operands, famAt, famOf, isV] at hl
                        simp [famWants, execOp, rho, go_sem, hl, famUpon, famOf, isV, Grows.refl]
                      · rw [if_neg (by decide)]
                        intro f W hl
                        simp [Oper.looksAt, Op.operands, Call.operands, famAt, famOf, isV] at hl
                        simp [famWants, execOp, rho, go_sem, hl, HFR.out, famUpon, famOf, isV, Grows.refl]
                      · rw [if_pos (by decide)]
                        intro L f W hi hcl hwt hX hl
                        simp [Oper.looksAt, Op.operands, Call.operands, famAt, famOf, isV] at hl
                        have h15 : L 15 = false := by
                          cases e : L 15 with
                          | false => rfl
                          | true => rw [hcl 15 12 (by kernel_rfl) e] at hi; cases hi
                        have h5 : L 5 = true := hwt 5 (by kernel_rfl)
                        obtain ⟨A2, c2, A', c', e74, hO2⟩ := hX.2.2.2.2.1 h5 hi
                        have hlen1 : (m2.take k ++ [(⟨F, M, A', c'⟩ : EvV)]).length = k + 1 := by rw [List.length_append, HLK.out]; rfl
                        have hrdW : Rds W (fun b => g < b) Ad (evs (m2.drop k)) := HDR.out.1.keep fun b hb hl' => hX.1.block b hl' (by omega) (by simp)
                        obtain ⟨v', W', hrun, hR', hg', hv'⟩ := run_eapp' W V.heap.size 22 (.slice A2 (k + 1) c2) (m2.take k ++ [⟨F, M, A', c'⟩]) hO2.row _ Ad nd cd (m2.drop k) HND.out hrdW (by rw [hlen1]; have := HNK.out; omega) hX.1.size
                        obtain ⟨A3, c3, rfl, _⟩ := hR'.form
                        have hlen : (m2.take k ++ [(⟨F, M, A', c'⟩ : EvV)] ++ m2.drop k).length = Nh + 1 := by rw [List.length_append, hlen1, HND.out]; exact HNK.out
                        rw [hlen] at hrun hR' hv'
                        refine ⟨fun _ => ?_, fun hh => ?_⟩
                        · simp only [execOp, resolve, invoke, builtin, rho, Sem.run_bind, Sem.run_pure, Result.andThen_ok, List.map_toArray, List.map_cons, List.map_nil, hl, e74, hrun, famUpon]
                          exact ⟨fun d hd => by cases hd; exact trivial, hX.app2 hgV h5 hi h15 hO2 hR' hg' hv' HDZ.out⟩
                        · simp [famWants] at hh
                      · rw [if_neg (by decide)]
                        intro f W hl
                        simp [Oper.looksAt, Op.operands, Call.operands, famAt, famOf, isV] at hl
                        simp [famWants, execOp, rho, go_sem, hl, famUpon, famOf, isV, Grows.refl]
                      · rw [if_neg (by decide)]
                        intro f W hl
                        simp [Oper.looksAt, Op.operands, Call.operands, famAt, famOf, isV] at hl
                        simp [famWants, execOp, rho, go_sem, hl, famUpon, famOf, isV, Grows.refl]
                      · rw [if_pos (by decide)]
                        intro L f W hi hcl hwt hX hl
                        simp [Oper.looksAt, Op.operands, Call.operands, famAt, famOf, isV] at hl
                        have h12 : L 12 = true := hwt 12 (by kernel_rfl)
                        have h5 : L 5 = true := hcl 12 5 (by kernel_rfl) h12
                        obtain ⟨A3, c3, e81, k1, f1, hX'⟩ := hX.sto hgV h12 hi h5 hcs
                        simp [famWants, execOp, rho, go_sem, hl, e81, k1, f1, famUpon, famOf, isV]
                        exact hX'
                      · trivial
                    · intro L' u W hL hX hu
                      obtain ⟨q1, A3, c3, A', c', q4, q5⟩ := hX.fin (hL 12 (by decide)) (hL 15 (by decide))
                      simp only [fill, Act.put, List.setIfInBounds_toArray, List.set_cons_zero, List.set_cons_succ]
                      refine wpList_nil ?_
                      have hEW : Blo W ge 43 (ecs F A n c) := HEV.out.keep (q1.block ge HEV.out.lt hgg (by simp))
                      have hgbW : w.grownBy W (some g) := gb_trans hgbV ⟨q1.os, q1.tape, q1.output, q1.size, fun i hi h => q1.block i hi (fun e => h (by rw [e])) (by simp)⟩
                      have h785 : (cs5.setIfInBounds 784 (.slice A3 (Nh + 1) c3))[785]? = some (.int .i64 t) := by rw [Array.getElem?_setIfInBounds, if_neg (by omega)]; exact hKV.time
                      have h784 : (cs5.setIfInBounds 784 (.slice A3 (Nh + 1) c3))[784]? = some (.slice A3 (Nh + 1) c3) := by
                        rw [Array.getElem?_setIfInBounds, if_pos rfl, if_pos (Array.getElem?_eq_some_iff.1 hcs).1]
                      have HSW6 := Lib.hid (hKV.saw.far (i := 784) (by omega) (.slice A3 (Nh + 1) c3))
                      obtain ⟨cs6, hcs6⟩ : ∃ x, x = cs5.setIfInBounds 784 (.slice A3 (Nh + 1) c3) := ⟨_, rfl⟩
                      rw [← hcs6] at q5 h785 h784 HSW6
                      have HB : Hid (∀ V, Grows W V → V.cell? ⟨g, 785, none⟩ = some (.int .i64 t)) := Lib.hid (fun V hV => ((q5.new hV).cell 785).trans h785)
                      have HE : Hid (∀ V, Grows W V → V.cell? ⟨ge, 2, none⟩ = some (.int .i64 (F 2))) := Lib.hid (fun V hV => (set14 (hEW.new hV)).2.2.1)
                      have HBP := Lib.hid q5
                      have HOW := Lib.hid q4
                      have HLL : Hid (Nh + 1 = (m2.take k ++ [(⟨F, M, A', c'⟩ : EvV)] ++ m2.drop k).length) := Lib.hid (by rw [List.length_append, List.length_append, HLK.out, HND.out]; exact HNK.out.symm)
                      clear hu hL hX HX0 HC HFR HDR hcs6 q4 hKV hEV
                      go_wp2_with fail
                      refine wp_fam (n := 10) (size := 94) (D := [84, 85, 86, 87, 88, 89, 90, 91, 92, 93]) [(84, isV (.pointer (some ⟨g, 0, none⟩))), (85, isV (.pointer (some ⟨g, 0, none⟩))), (86, isV (.pointer (some ⟨g, 0, none⟩))), (87, isV (.pointer (some ⟨g, 785, none⟩))), (88, isV (.int .i64 t)), (89, isV (.pointer (some ⟨ge, 2, none⟩))), (90, isV (.int .i64 (F 2))), (91, isV (.int .i64 (max t (F 2)))), (92, isV (.pointer (some ⟨g, 0, none⟩))), (93, isV (.pointer (some ⟨g, 785, none⟩)))] (by kernel_rfl) (by rfl) (by kernel_rfl) ?_ ?_
                      · simp only [List.take_succ_cons, List.take_zero, famAll]
                        repeat' apply And.intro
                        · intro f V hg hl
                          simp [Oper.looksAt, Op.operands, Call.operands, famAt, famOf, isV] at hl
                          simp [famWants, boolIs_bool, boolIs_undef, execOp, rho, go_sem, hl, famUpon, famOf, isV, Grows.refl]
                        · intro f V hg hl
                          simp [Oper.looksAt, Op.operands, Call.operands, famAt, famOf, isV] at hl
                          simp [famWants, boolIs_bool, boolIs_undef, execOp, rho, go_sem, hl, famUpon, famOf, isV, Grows.refl]
                        · intro f V hg hl
                          simp [Oper.looksAt, Op.operands, Call.operands, famAt, famOf, isV] at hl
                          simp [famWants, boolIs_bool, boolIs_undef, execOp, rho, go_sem, hl, famUpon, famOf, isV, Grows.refl]
                        · intro f V hg hl
                          simp [Oper.looksAt, Op.operands, Call.operands, famAt, famOf, isV] at hl
                          simp [famWants, boolIs_bool, boolIs_undef, execOp, rho, go_sem, hl, famUpon, famOf, isV, Grows.refl]
                        · intro f V hg hl
                          have kk := HB.out V hg
                          simp [Oper.looksAt, Op.operands, Call.operands, famAt, famOf, isV] at hl
                          simp [famWants, boolIs_bool, boolIs_undef, execOp, rho, go_sem, hl, kk, famUpon, famOf, isV, Grows.refl]
                        · intro f V hg hl
                          simp [Oper.looksAt, Op.operands, Call.operands, famAt, famOf, isV] at hl
                          simp [famWants, boolIs_bool, boolIs_undef, execOp, rho, go_sem, hl, famUpon, famOf, isV, Grows.refl]
                        · intro f V hg hl
                          have kk := HE.out V hg
                          simp [Oper.looksAt, Op.operands, Call.operands, famAt, famOf, isV] at hl
                          simp [famWants, boolIs_bool, boolIs_undef, execOp, rho, go_sem, hl, kk, famUpon, famOf, isV, Grows.refl]
                        · intro f V hg hl
                          simp [Oper.looksAt, Op.operands, Call.operands, famAt, famOf, isV] at hl
                          simp [famWants, boolIs_bool, boolIs_undef, execOp, rho, go_sem, hl, famUpon, famOf, isV, Grows.refl]
                          split <;> omega
                        · intro f V hg hl
                          simp [Oper.looksAt, Op.operands, Call.operands, famAt, famOf, isV] at hl
                          simp [famWants, boolIs_bool, boolIs_undef, execOp, rho, go_sem, hl, famUpon, famOf, isV, Grows.refl]
                        · intro f V hg hl
                          simp [Oper.looksAt, Op.operands, Call.operands, famAt, famOf, isV] at hl
                          simp [famWants, boolIs_bool, boolIs_undef, execOp, rho, go_sem, hl, famUpon, famOf, isV, Grows.refl]
                        · trivial
                      · intro u V' hg hu
                        have e91 : u 91 = .int .i64 (max t (F 2)) := hu 91 (by decide)
                        have e93 : u 93 = .pointer (some ⟨g, 785, none⟩) := hu 93 (by decide)
                        simp only [List.drop_succ_cons, List.drop_zero, fill, Act.put, List.setIfInBounds_toArray, List.set_cons_zero, List.set_cons_succ, e91, e93]
                        have hBV := HBP.out.new hg
                        have k10 : V'.cell? ⟨g, 785, none⟩ = some (.int .i64 t) := HB.out V' hg
                        have k10f := hBV.frozen 785
                        clear hu e91 e93 HB HE
                        obtain ⟨w10, hw10⟩ : ∃ W, V'.setCell ⟨g, 785, none⟩ (.int .i64 (max t (F 2))) = W := ⟨_, rfl⟩
                        have hg10 : V'.grownBy w10 (some g) := by rw [← hw10]; exact gb_set (World.grownBy.refl _ _) (.inl rfl) _
                        have hB10 : Blo w10 g T (cs6.setIfInBounds 785 (.int .i64 (max t (F 2)))) := by rw [← hw10]; simpa using hBV.put 785 (.int .i64 (max t (F 2)))
                        have hO10 := (HOW.out.new hg).keep (w' := w10) fun b hb hl => hg10.block b hl (fun e => by
                          injection e with e
                          subst e
                          rcases hb with hb | hb
                          · omega
                          · exact absurd hb.1 (Nat.lt_irrefl _))
                        have HW10 := Lib.hid hw10
                        clear hw10 q5
                        go_wp2
                        go_ret
                        rw [HW10.out]
                        have H0 : B.addE ⟨saw, plain m, t⟩ (F, M) = 0 := B.addE_ok.2 ⟨HQ.out, by simp only [B.dotOf, HA.out, HB'.out]; exact HSW.out⟩
                        refine ⟨ret_int H0.symm, ⟨_, ⟨_, A3, Nh + 1, c3, hB10, ?_, ?_, ?_, HLL.out, hO10.mono hgV (fun b hb => ⟨hb.1, hb.2.imp id fun h => Nat.le_trans hwV h⟩)⟩, ?_⟩, gb_trans (gb_trans hgbW (gb_below hg _)) hg10⟩
                        · rw [B.add_ok H0]
                          have := HSW6.out.far (i := 785) (by omega) (.int .i64 (max t (F 2)))
                          have e1 : (B.put ⟨saw, plain m, t⟩ (F, M)).saw = sawR saw ((a : Int), (b : Int)) M := by
                            funext d
                            simp only [B.put, sawR, B.dotOf, HA.out, HB'.out]
                          rw [e1]
                          exact this
                        · rw [Array.getElem?_setIfInBounds, if_neg (by omega)]
                          exact h784
                        · rw [B.add_ok H0, Array.getElem?_setIfInBounds, if_pos rfl, if_pos (Array.getElem?_eq_some_iff.1 h785).1]
                          rfl
                        · rw [B.add_ok H0]
                          have e1 := put_plain (by rw [← HNh.out]; exact hk) HK.out HX.out ⟨F, M, A', c'⟩ (by simp only [HA.out, HB'.out])
                          rw [← e1, HM2.out, keep_plain m (F := F) (M := M) (by rw [HA.out, HB'.out])]
                          rfl
              · have HX : Hid (∀ hk : k < m2.length, D.bef (m2[k].F 0, m2[k].F 1) ((a : Int), (b : Int)) = false) := Lib.hid (fun h => absurd h (by rw [← HNh.out]; exact hkt))
                have hkt1 : ¬ (k : Int) < (Nh : Int) := by omega
                go_wp2_with fail
                refine wp_fam (n := 20) (size := 94) (D := [39, 40, 41, 42, 43, 44, 45, 46, 47, 48, 49, 50, 51, 52, 53, 54, 55, 56, 57, 58]) [(39, isV (.int .i64 (k : Int))), (40, isV (.pointer (some ⟨g, 0, none⟩))), (41, isV (.pointer (some ⟨g, 0, none⟩))), (42, isV (.pointer (some ⟨g, 784, none⟩))), (43, isV (.slice Ah Nh ch)), (44, isV (.int .i64 (Nh : Int))), (45, isV (.bool false)), (46, isV (.bool false)), (47, isV undef), (48, isV undef), (49, isV undef), (50, isV undef), (51, isV undef), (52, isV undef), (53, isV undef), (54, isV undef), (55, isV undef), (56, isV undef), (57, isV undef), (58, isV (.bool false))] (by kernel_rfl) (by rfl) (by kernel_rfl) ?_ ?_
                · simp only [List.take_succ_cons, List.take_zero, famAll]
                  repeat' apply And.intro
                  · intro f V hg hl
                    simp [Oper.looksAt, Op.operands, Call.operands, famAt, famOf, isV] at hl
                    simp [famWants, boolIs_bool, boolIs_undef, execOp, rho, go_sem, hl, famUpon, famOf, isV, Grows.refl]
                  · intro f V hg hl
                    simp [Oper.looksAt, Op.operands, Call.operands, famAt, famOf, isV] at hl
                    simp [famWants, boolIs_bool, boolIs_undef, execOp, rho, go_sem, hl, famUpon, famOf, isV, Grows.refl]
                  · intro f V hg hl
                    simp [Oper.looksAt, Op.operands, Call.operands, famAt, famOf, isV] at hl
                    simp [famWants, boolIs_bool, boolIs_undef, execOp, rho, go_sem, hl, famUpon, famOf, isV, Grows.refl]
                  · intro f V hg hl
                    simp [Oper.looksAt, Op.operands, Call.operands, famAt, famOf, isV] at hl
                    simp [famWants, boolIs_bool, boolIs_undef, execOp, rho, go_sem, hl, famUpon, famOf, isV, Grows.refl]
                  · intro f V hg hl
                    have kk := HH.out V hg
                    simp [Oper.looksAt, Op.operands, Call.operands, famAt, famOf, isV] at hl
                    simp [famWants, boolIs_bool, boolIs_undef, execOp, rho, go_sem, hl, kk, famUpon, famOf, isV, Grows.refl]
                  · intro f V hg hl
                    simp [Oper.looksAt, Op.operands, Call.operands, famAt, famOf, isV] at hl
                    simp [famWants, boolIs_bool, boolIs_undef, execOp, rho, go_sem, hl, famUpon, famOf, isV, Grows.refl]
                  · intro f V hg hl
                    simp [Oper.looksAt, Op.operands, Call.operands, famAt, famOf, isV] at hl
                    simp [famWants, boolIs_bool, boolIs_undef, execOp, rho, go_sem, hl, hkt1, hkt, famUpon, famOf, isV, Grows.refl]
                  · intro f V hg hl
                    simp [Oper.looksAt, Op.operands, Call.operands, famAt, famOf, isV] at hl
                    simp [famWants, boolIs_bool, boolIs_undef, execOp, rho, go_sem, hl, famUpon, famOf, isV, Grows.refl]
                  · intro f V hg hl
                    simp [Oper.looksAt, Op.operands, Call.operands, famAt, famOf, isV] at hl
                    simp [famWants, boolIs_bool, boolIs_undef, execOp, rho, go_sem, hl, famUpon, famOf, isV, Grows.refl]
                  · intro f V hg hl
                    simp [Oper.looksAt, Op.operands, Call.operands, famAt, famOf, isV] at hl
                    simp [famWants, boolIs_bool, boolIs_undef, execOp, rho, go_sem, hl, famUpon, famOf, isV, Grows.refl]
                  · intro f V hg hl
                    simp [Oper.looksAt, Op.operands, Call.operands, famAt, famOf, isV] at hl
                    simp [famWants, boolIs_bool, boolIs_undef, execOp, rho, go_sem, hl, famUpon, famOf, isV, Grows.refl]
                  · intro f V hg hl
                    simp [Oper.looksAt, Op.operands, Call.operands, famAt, famOf, isV] at hl
                    simp [famWants, boolIs_bool, boolIs_undef, execOp, rho, go_sem, hl, famUpon, famOf, isV, Grows.refl]
                  · intro f V hg hl
                    simp [Oper.looksAt, Op.operands, Call.operands, famAt, famOf, isV] at hl
                    simp [famWants, boolIs_bool, boolIs_undef, execOp, rho, go_sem, hl, famUpon, famOf, isV, Grows.refl]
                  · intro f V hg hl
                    simp [Oper.looksAt, Op.operands, Call.operands, famAt, famOf, isV] at hl
                    simp [famWants, boolIs_bool, boolIs_undef, execOp, rho, go_sem, hl, famUpon, famOf, isV, Grows.refl]
                  · intro f V hg hl
                    simp [Oper.looksAt, Op.operands, Call.operands, famAt, famOf, isV] at hl
                    simp [famWants, boolIs_bool, boolIs_undef, execOp, rho, go_sem, hl, famUpon, famOf, isV, Grows.refl]
                  · intro f V hg hl
                    simp [Oper.looksAt, Op.operands, Call.operands, famAt, famOf, isV] at hl
                    simp [famWants, boolIs_bool, boolIs_undef, execOp, rho, go_sem, hl, famUpon, famOf, isV, Grows.refl]
                  · intro f V hg hl
                    simp [Oper.looksAt, Op.operands, Call.operands, famAt, famOf, isV] at hl
                    simp [famWants, boolIs_bool, boolIs_undef, execOp, rho, go_sem, hl, famUpon, famOf, isV, Grows.refl]
                  · intro f V hg hl
                    simp [Oper.looksAt, Op.operands, Call.operands, famAt, famOf, isV] at hl
                    simp [famWants, boolIs_bool, boolIs_undef, execOp, rho, go_sem, hl, famUpon, famOf, isV, Grows.refl]
                  · intro f V hg hl
                    simp [Oper.looksAt, Op.operands, Call.operands, famAt, famOf, isV] at hl
                    simp [famWants, boolIs_bool, boolIs_undef, execOp, rho, go_sem, hl, famUpon, famOf, isV, Grows.refl]
                  · intro f V hg hl
                    simp [Oper.looksAt, Op.operands, Call.operands, famAt, famOf, isV] at hl
                    simp [famWants, boolIs_bool, boolIs_undef, execOp, rho, go_sem, hl, famUpon, famOf, isV, Grows.refl]
                  · trivial
                · intro u V hg hu
                  have e58 : u 58 = .bool false := hu 58 (by decide)
                  simp only [List.drop_succ_cons, List.drop_zero, fill, Act.put, List.setIfInBounds_toArray, List.set_cons_zero, List.set_cons_succ, e58]
                  refine wpList_nil ?_
                  have hb7V := below_new hbk hg
                  clear hu e58 HH HE0 HE1
                  have hKV := hK.new hb7V
                  have hEV := hE5.new hb7V
                  have hrV := hr5.new hb7V
                  have hgbV : w.grownBy V (some g) := gb_trans hgb5 (gb_below hb7V _)
                  have hgV : g < V.heap.size := hKV.blo.lt
                  have hNc : Nh ≤ ch := by
                    obtain ⟨A0, c0, e0, hle, _⟩ := hKV.own.row.form
                    simp only [Value.slice.injEq] at e0
                    rw [HNh.out, e0.2.2]
                    exact hle
                  have hcs : cs5[784]? = some (.slice Ah Nh ch) := hKV.hold
                  obtain ⟨w8, hw8⟩ : ∃ W, V.alloc (.cells #[] 43) = W := ⟨_, rfl⟩
                  have hb8 : Below V.heap.size V w8 := by rw [← hw8]; exact b_alloc _ _
                  have hs8 := hb8.size
                  have hR8 : ERow w8 V.heap.size (.slice (some ⟨V.heap.size, 0, none⟩) 0 0) [] := by rw [← hw8]; exact ERow.lit0 _
                  have hR8' := hR8
                  have hO8 : EOwn w8 (aS g Z V) V.heap.size (.slice (some ⟨V.heap.size, 0, none⟩) 0 0) [] := ⟨hR8, fun e he => by cases he⟩
                  have hto := run_eto Ah Nh ch k (Nat.le_trans hk hNc) w8
                  have x784 : w8.cell? ⟨g, 784, none⟩ = some (.slice Ah Nh ch) := ((hKV.blo.new hb8).cell _).trans hKV.hold
                  have hrd8 : Rds w8 (fun _ => True) Ah (evs (m2.take k)) := ((hKV.own.erds.take k).new hb8).1
                  have hdt8 : ∀ e ∈ m2.take k, Rds w8 (fun b => aS g Z V b ∧ some b ≠ (Value.slice (some ⟨V.heap.size, 0, none⟩) 0 0).ownBlock) e.A (dvs e.M) := fun e he => ((hKV.own.dots e (List.mem_of_mem_take he)).old.new hb8).mono fun b hb => ⟨⟨hb.1.1.1, .inl hb.1.1.2⟩, fun e' => by
                    have h1 := hb.2
                    simp [Value.ownBlock] at e'
                    omega⟩
                  have hlk : (m2.take k).length = k := by rw [List.length_take, ← HNh.out]; omega
                  have HDR : Hid (ERds V (fun b => g < b) (if ch = k then Ah else Ah.map (·.add (k * 14))) (m2.drop k)) := Lib.hid ((hKV.own.erdsS.mono fun b hb => hb.elim id fun h => h.1).from (by rw [← HNh.out]; exact hNc))
                  have HFR : Hid (∀ W, (Instr.slice 22 (.slice Ah Nh ch) (some (.int .i64 (k : Int))) none none).run Try.prog W = .ok (.slice (if ch = k then Ah else Ah.map (·.add (k * 14))) (Nh - k) (ch - k)) W) := Lib.hid (fun W => run_efrom Ah Nh ch k hk W)
                  have HDZ : Hid (∀ e ∈ m2.drop k, Rds V (fun b => g < b ∧ Z b) e.A (dvs e.M)) := Lib.hid (fun e he => (hKV.own.dots e (List.mem_of_mem_drop he)).mono fun b hb => hb.1)
                  have hwV : w.heap.size ≤ V.heap.size := hgbV.size
                  obtain ⟨Ad, hAd⟩ : ∃ x, x = if ch = k then Ah else Ah.map (·.add (k * 14)) := ⟨_, rfl⟩
                  obtain ⟨nd, hnd⟩ : ∃ x, x = Nh - k := ⟨_, rfl⟩
                  obtain ⟨cd, hcd⟩ : ∃ x, x = ch - k := ⟨_, rfl⟩
                  rw [← hAd] at HDR HFR
                  rw [← hnd, ← hcd] at HFR
                  have HND : Hid ((m2.drop k).length = nd) := Lib.hid (by rw [List.length_drop, ← HNh.out, hnd])
                  have HNK : Hid (k + 1 + nd = Nh + 1) := Lib.hid (by omega)
                  have HW8 := Lib.hid hw8
                  have HS8 : Hid (w8.heap.size = V.heap.size + 1) := Lib.hid (by rw [← hw8]; simp)
                  have HLK := Lib.hid hlk
                  rw [← hw8] at hto x784 hrd8 hR8 hs8
                  have hk6 : ([] : List EvV).length + k ≤ 1000000 := by simp; omega
                  clear hw8 hAd hnd hcd hlk hKr hEr hb7V
                  go_wp2_with (at_builtin; refine wpList_eapp' _ rfl _ _ rfl V.heap.size (.slice (some ⟨V.heap.size, 0, none⟩) 0 0) [] rfl hR8 _ Ah k ch (m2.take k) rfl HLK.out hrd8 hk6 hs8 ?_)
                  intro v9 w9 hr9 hg9 hv9
                  rw [HW8.out] at hg9
                  rw [← HS8.out] at hv9
                  have hO9 := hO8.app hr9 hg9 hv9 hdt8
                  obtain ⟨A8, c8, rfl, _⟩ := hr9.form
                  rw [List.nil_append] at hO9
                  rw [HLK.out] at hO9 hr9 ⊢
                  have hK9 : Kpt V w9 g none := AX.grow hgV (Kpt.of hb8) hR8' hg9
                  have hB9 : Blo w9 g T cs5 := (hKV.blo.new hb8).grown hg9 (fun e => by simp [Value.ownBlock] at e; omega)
                  have HX0 : Hid (∀ f, AX V g T Z cs5 F n M A8 k c8 (m2.take k) (m2.drop k) (Nh + 1) (fun _ => false) f w9) := Lib.hid (fun f => ⟨hK9, fun e => (by cases e), fun e => (by cases e), fun _ => hO9, fun e => (by cases e), fun e => (by cases e), fun _ => hB9⟩)
                  have HC : Hid (∀ W, Kpt V W g none → Calls Try.prog 12 #[ev F A n c] W (EvPost F M W)) := Lib.hid (fun W hW => ecopy_any S F A n c M W HN.out (hrV.keep fun b hb hl => hW.block b hl (hS b hb) (by simp)) (by have h : M.length ≤ 96 := h96; rw [HN.out] at h; omega))
                  have HEV := Lib.hid hEV
                  clear hO8 hto x784 hrd8 hR8 hdt8 hr9 hg9 hv9 hK9 hB9 hO9 hb8 hs8 hrV
                  go_wp2_with fail
                  refine wp_famY (size := 94) (D := [69, 70, 71, 72, 73, 74, 75, 76, 77, 78, 79, 80, 81, 82, 83]) [2, 3, 4, 5, 9, 12, 15] [72, 73, 74, 81] [(69, isV (.pointer (some ⟨g, 0, none⟩))), (70, isV (.slice A8 k c8)), (71, isV (ev F A n c)), (75, isV (.pointer (some ⟨g, 0, none⟩))), (76, isV (.pointer (some ⟨g, 0, none⟩))), (77, isV (.pointer (some ⟨g, 784, none⟩))), (78, isV (.slice Ah Nh ch)), (79, isV (.int .i64 (k : Int))), (80, isV (.slice Ad nd cd)), (82, isV (.pointer (some ⟨g, 0, none⟩))), (83, isV (.pointer (some ⟨g, 784, none⟩)))] (AX V g T Z cs5 F n M A8 k c8 (m2.take k) (m2.drop k) (Nh + 1)) AX.up (by kernel_rfl) (by rfl) (by kernel_rfl) (HX0.out _) ?_ ?_
                  · simp only [famAllY]
                    repeat' apply And.intro
                    · rw [if_neg (by decide)]
                      intro f W hl
                      simp [Oper.looksAt, Op.operands, Call.operands, famAt, famOf, isV] at hl
                      simp [famWants, execOp, rho, go_sem, hl, famUpon, famOf, isV, Grows.refl]
                    · rw [if_neg (by decide)]
                      intro f W hl
                      simp [Oper.looksAt, Op.operands, Call.operands, famAt, famOf, isV] at hl
                      simp [famWants, execOp, rho, go_sem, hl, famUpon, famOf, isV, Grows.refl]
                    · rw [if_pos (by decide)]
                      intro L f W hi hcl hwt hX hl
                      simp [Oper.looksAt, Op.operands, Call.operands, famAt, famOf, isV] at hl
                      have hEW : Blo W ge 43 (ecs F A n c) := HEV.out.keep (hX.1.block ge HEV.out.lt hgg (by simp))
                      obtain ⟨c0, c1, c2, c3, c4, c5, c6, c7, c8, c9, c10, c11, c12, c13⟩ := set14 hEW
                      simp [famWants, execOp, rho, go_sem, hl, c0, c1, c2, c3, c4, c5, c6, c7, c8, c9, c10, c11, c12, c13, famUpon, famOf, isV]
                      exact hX.pass (by decide) (by decide)
                    · rw [if_pos (by decide)]
                      intro L f W hi hcl hwt hX hl
                      simp [Oper.looksAt, Op.operands, Call.operands, famAt, famOf, isV] at hl
                      have h4 : L 4 = false := by
                        cases e : L 4 with
                        | false => rfl
                        | true => rw [hcl 4 3 (by kernel_rfl) e] at hi; cases hi
                      have h5 : L 5 = false := by
                        cases e : L 5 with
                        | false => rfl
                        | true => rw [hcl 5 4 (by kernel_rfl) e] at h4; cases h4
                      have h12 : L 12 = false := by
                        cases e : L 12 with
                        | false => rfl
                        | true => rw [hcl 12 5 (by kernel_rfl) e] at h5; cases h5
                      have h15 : L 15 = false := by
                        cases e : L 15 with
                        | false => rfl
                        | true => rw [hcl 15 12 (by kernel_rfl) e] at h12; cases h12
                      have hc := HC.out W hX.1
                      simp [famWants, execOp, rho, go_sem, hl, famUpon, famOf, isV]
                      refine hc.mono ?_
                      rintro e w'' ⟨A', c', rfl, hcp, hg'⟩
                      have hfin := hX.cal h4 h5 h12 h15 hcp hg'
                      rw [HN.out]
                      exact ⟨_, rfl, hfin⟩
                    · rw [if_pos (by decide)]
                      intro L f W hi hcl hwt hX hl
                      simp [Oper.looksAt, Op.operands, Call.operands, famAt, famOf, isV] at hl
                      have h5 : L 5 = false := by
                        cases e : L 5 with
                        | false => rfl
                        | true => rw [hcl 5 4 (by kernel_rfl) e] at hi; cases hi
                      have h12 : L 12 = false := by
                        cases e : L 12 with
                        | false => rfl
                        | true => rw [hcl 12 5 (by kernel_rfl) e] at h5; cases h5
                      have h15 : L 15 = false := by
                        cases e : L 15 with
                        | false => rfl
                        | true => rw [hcl 15 12 (by kernel_rfl) e] at h12; cases h12
                      have h3 : L 3 = true := hwt 3 (by kernel_rfl)
                      obtain ⟨A', c', e72, hcp⟩ := hX.2.1 h3 h5
                      simp [famWants, execOp, rho, go_sem, hl, e72, famUpon, famOf, isV]
                      exact hX.lit h5 h12 h15 hcp
                    · rw [if_pos (by decide)]
                      intro L f W hi hcl hwt hX hl
                      simp [Oper.looksAt, Op.operands, Call.operands, famAt, famOf, isV] at hl
                      have h12 : L 12 = false := by
                        cases e : L 12 with
                        | false => rfl
                        | true => rw [hcl 12 5 (by kernel_rfl) e] at hi; cases hi
                      have h15 : L 15 = false := by
                        cases e : L 15 with
                        | false => rfl
                        | true => rw [hcl 15 12 (by kernel_rfl) e] at h12; cases h12
                      have h4 : L 4 = true := hwt 4 (by kernel_rfl)
                      obtain ⟨b9, A', c', e73, hBb, hcp⟩ := hX.2.2.1 h4 hi
                      have hrw := hX.2.2.2.1 hi
                      have hBb' : Blo W b9 43 (EvV.cells ⟨F, M, A', c'⟩) := by
                        unfold EvV.cells
                        simp only
                        rw [HN.out]
                        exact hBb
                      obtain ⟨v', W', hrun, hR', hg', hv'⟩ := run_eapp W V.heap.size 22 (.slice A8 k c8) (m2.take k) hrw.row (fun _ => True) ⟨b9, 0, none⟩ 1 1 [⟨F, M, A', c'⟩] rfl (blo_ers _ hBb') (by rw [HLK.out]; omega) hX.1.size
                      obtain ⟨A2, c2, rfl, _⟩ := hR'.form
                      have hlen : (m2.take k ++ [(⟨F, M, A', c'⟩ : EvV)]).length = k + 1 := by rw [List.length_append, HLK.out]; rfl
                      rw [hlen] at hrun hR' hv'
                      refine ⟨fun _ => ?_, fun hh => ?_⟩
                      · simp only [execOp, resolve, invoke, builtin, rho, Sem.run_bind, Sem.run_pure, Result.andThen_ok, List.map_toArray, List.map_cons, List.map_nil, hl, e73, hrun, famUpon]
                        exact ⟨fun d hd => by cases hd; exact trivial, hX.app hgV hi h12 h15 hcp hR' hg' hv'⟩
                      · simp [famWants] at hh
                    · rw [if_neg (by decide)]
                      intro f W hl
                      simp [Oper.looksAt, Op.operands, Call.operands, famAt, famOf, isV] at hl
                      simp [famWants, execOp, rho, go_sem, hl, famUpon, famOf, isV, Grows.refl]
                    · rw [if_neg (by decide)]
                      intro f W hl
                      simp [Oper.looksAt, Op.operands, Call.operands, famAt, famOf, isV] at hl
                      simp [famWants, execOp, rho, go_sem, hl, famUpon, famOf, isV, Grows.refl]
                    · rw [if_neg (by decide)]
                      intro f W hl
                      simp [Oper.looksAt, Op.operands, Call.operands, famAt, famOf, isV] at hl
                      simp [famWants, execOp, rho, go_sem, hl, famUpon, famOf, isV, Grows.refl]
                    · rw [if_pos (by decide)]
                      intro L f W hi hcl hwt hX hl
                      simp [Oper.looksAt, Op.operands, Call.operands, famAt, famOf, isV] at hl
                      have h11 : L 11 = false := by
                        cases e : L 11 with
                        | false => rfl
                        | true => rw [hcl 11 9 (by kernel_rfl) e] at hi; cases hi
                      have h12 : L 12 = false := by
                        cases e : L 12 with
                        | false => rfl
                        | true => rw [hcl 12 11 (by kernel_rfl) e] at h11; cases h11
                      have h15 : L 15 = false := by
                        cases e : L 15 with
                        | false => rfl
                        | true => rw [hcl 15 12 (by kernel_rfl) e] at h12; cases h12
                      have k1 : W.cell? ⟨g, 784, none⟩ = some (.slice Ah Nh ch) := ((hX.2.2.2.2.2.2 h15).cell 784).trans hcs
                      simp [famWants, execOp, rho, go_sem, hl, k1, famUpon, famOf, isV]
                      exact hX.pass (by decide) (by decide)
                    · rw [if_neg (by decide)]
                      intro f W hl
                      simp [Oper.looksAt, Op.operands, Call.operands, famAt, famOf, isV] at hl
                      simp [famWants, execOp, rho, go_sem, hl, famUpon, famOf, isV, Grows.refl]
                    · rw [if_neg (by decide)]
                      intro f W hl
                      simp [Oper.looksAt, Op.operands, Call.operands, famAt, famOf, isV] at hl
                      simp [famWants, execOp, rho, go_sem, hl, HFR.out, famUpon, famOf, isV, Grows.refl]
                    · rw [if_pos (by decide)]
                      intro L f W hi hcl hwt hX hl
                      simp [Oper.looksAt, Op.operands, Call.operands, famAt, famOf, isV] at hl
                      have h15 : L 15 = false := by
                        cases e : L 15 with
                        | false => rfl
                        | true => rw [hcl 15 12 (by kernel_rfl) e] at hi; cases hi
                      have h5 : L 5 = true := hwt 5 (by kernel_rfl)
                      obtain ⟨A2, c2, A', c', e74, hO2⟩ := hX.2.2.2.2.1 h5 hi
                      have hlen1 : (m2.take k ++ [(⟨F, M, A', c'⟩ : EvV)]).length = k + 1 := by rw [List.length_append, HLK.out]; rfl
                      have hrdW : Rds W (fun b => g < b) Ad (evs (m2.drop k)) := HDR.out.1.keep fun b hb hl' => hX.1.block b hl' (by omega) (by simp)
                      obtain ⟨v', W', hrun, hR', hg', hv'⟩ := run_eapp' W V.heap.size 22 (.slice A2 (k + 1) c2) (m2.take k ++ [⟨F, M, A', c'⟩]) hO2.row _ Ad nd cd (m2.drop k) HND.out hrdW (by rw [hlen1]; have := HNK.out; omega) hX.1.size
                      obtain ⟨A3, c3, rfl, _⟩ := hR'.form
                      have hlen : (m2.take k ++ [(⟨F, M, A', c'⟩ : EvV)] ++ m2.drop k).length = Nh + 1 := by rw [List.length_append, hlen1, HND.out]; exact HNK.out
                      rw [hlen] at hrun hR' hv'
                      refine ⟨fun _ => ?_, fun hh => ?_⟩
                      · simp only [execOp, resolve, invoke, builtin, rho, Sem.run_bind, Sem.run_pure, Result.andThen_ok, List.map_toArray, List.map_cons, List.map_nil, hl, e74, hrun, famUpon]
                        exact ⟨fun d hd => by cases hd; exact trivial, hX.app2 hgV h5 hi h15 hO2 hR' hg' hv' HDZ.out⟩
                      · simp [famWants] at hh
                    · rw [if_neg (by decide)]
                      intro f W hl
                      simp [Oper.looksAt, Op.operands, Call.operands, famAt, famOf, isV] at hl
                      simp [famWants, execOp, rho, go_sem, hl, famUpon, famOf, isV, Grows.refl]
                    · rw [if_neg (by decide)]
                      intro f W hl
                      simp [Oper.looksAt, Op.operands, Call.operands, famAt, famOf, isV] at hl
                      simp [famWants, execOp, rho, go_sem, hl, famUpon, famOf, isV, Grows.refl]
                    · rw [if_pos (by decide)]
                      intro L f W hi hcl hwt hX hl
                      simp [Oper.looksAt, Op.operands, Call.operands, famAt, famOf, isV] at hl
                      have h12 : L 12 = true := hwt 12 (by kernel_rfl)
                      have h5 : L 5 = true := hcl 12 5 (by kernel_rfl) h12
                      obtain ⟨A3, c3, e81, k1, f1, hX'⟩ := hX.sto hgV h12 hi h5 hcs
                      simp [famWants, execOp, rho, go_sem, hl, e81, k1, f1, famUpon, famOf, isV]
                      exact hX'
                    · trivial
                  · intro L' u W hL hX hu
                    obtain ⟨q1, A3, c3, A', c', q4, q5⟩ := hX.fin (hL 12 (by decide)) (hL 15 (by decide))
                    simp only [fill, Act.put, List.setIfInBounds_toArray, List.set_cons_zero, List.set_cons_succ]
                    refine wpList_nil ?_
                    have hEW : Blo W ge 43 (ecs F A n c) := HEV.out.keep (q1.block ge HEV.out.lt hgg (by simp))
                    have hgbW : w.grownBy W (some g) := gb_trans hgbV ⟨q1.os, q1.tape, q1.output, q1.size, fun i hi h => q1.block i hi (fun e => h (by rw [e])) (by simp)⟩
                    have h785 : (cs5.setIfInBounds 784 (.slice A3 (Nh + 1) c3))[785]? = some (.int .i64 t) := by rw [Array.getElem?_setIfInBounds, if_neg (by omega)]; exact hKV.time
                    have h784 : (cs5.setIfInBounds 784 (.slice A3 (Nh + 1) c3))[784]? = some (.slice A3 (Nh + 1) c3) := by
                      rw [Array.getElem?_setIfInBounds, if_pos rfl, if_pos (Array.getElem?_eq_some_iff.1 hcs).1]
                    have HSW6 := Lib.hid (hKV.saw.far (i := 784) (by omega) (.slice A3 (Nh + 1) c3))
                    obtain ⟨cs6, hcs6⟩ : ∃ x, x = cs5.setIfInBounds 784 (.slice A3 (Nh + 1) c3) := ⟨_, rfl⟩
                    rw [← hcs6] at q5 h785 h784 HSW6
                    have HB : Hid (∀ V, Grows W V → V.cell? ⟨g, 785, none⟩ = some (.int .i64 t)) := Lib.hid (fun V hV => ((q5.new hV).cell 785).trans h785)
                    have HE : Hid (∀ V, Grows W V → V.cell? ⟨ge, 2, none⟩ = some (.int .i64 (F 2))) := Lib.hid (fun V hV => (set14 (hEW.new hV)).2.2.1)
                    have HBP := Lib.hid q5
                    have HOW := Lib.hid q4
                    have HLL : Hid (Nh + 1 = (m2.take k ++ [(⟨F, M, A', c'⟩ : EvV)] ++ m2.drop k).length) := Lib.hid (by rw [List.length_append, List.length_append, HLK.out, HND.out]; exact HNK.out.symm)
                    clear hu hL hX HX0 HC HFR HDR hcs6 q4 hKV hEV
                    go_wp2_with fail
                    refine wp_fam (n := 10) (size := 94) (D := [84, 85, 86, 87, 88, 89, 90, 91, 92, 93]) [(84, isV (.pointer (some ⟨g, 0, none⟩))), (85, isV (.pointer (some ⟨g, 0, none⟩))), (86, isV (.pointer (some ⟨g, 0, none⟩))), (87, isV (.pointer (some ⟨g, 785, none⟩))), (88, isV (.int .i64 t)), (89, isV (.pointer (some ⟨ge, 2, none⟩))), (90, isV (.int .i64 (F 2))), (91, isV (.int .i64 (max t (F 2)))), (92, isV (.pointer (some ⟨g, 0, none⟩))), (93, isV (.pointer (some ⟨g, 785, none⟩)))] (by kernel_rfl) (by rfl) (by kernel_rfl) ?_ ?_
                    · simp only [List.take_succ_cons, List.take_zero, famAll]
                      repeat' apply And.intro
                      · intro f V hg hl
                        simp [Oper.looksAt, Op.operands, Call.operands, famAt, famOf, isV] at hl
                        simp [famWants, boolIs_bool, boolIs_undef, execOp, rho, go_sem, hl, famUpon, famOf, isV, Grows.refl]
                      · intro f V hg hl
                        simp [Oper.looksAt, Op.operands, Call.operands, famAt, famOf, isV] at hl
                        simp [famWants, boolIs_bool, boolIs_undef, execOp, rho, go_sem, hl, famUpon, famOf, isV, Grows.refl]
                      · intro f V hg hl
                        simp [Oper.looksAt, Op.operands, Call.operands, famAt, famOf, isV] at hl
                        simp [famWants, boolIs_bool, boolIs_undef, execOp, rho, go_sem, hl, famUpon, famOf, isV, Grows.refl]
                      · intro f V hg hl
                        simp [Oper.looksAt, Op.operands, Call.operands, famAt, famOf, isV] at hl
                        simp [famWants, boolIs_bool, boolIs_undef, execOp, rho, go_sem, hl, famUpon, famOf, isV, Grows.refl]
                      · intro f V hg hl
                        have kk := HB.out V hg
                        simp [Oper.looksAt, Op.operands, Call.operands, famAt, famOf, isV] at hl
                        simp [famWants, boolIs_bool, boolIs_undef, execOp, rho, go_sem, hl, kk, famUpon, famOf, isV, Grows.refl]
                      · intro f V hg hl
                        simp [Oper.looksAt, Op.operands, Call.operands, famAt, famOf, isV] at hl
                        simp [famWants, boolIs_bool, boolIs_undef, execOp, rho, go_sem, hl, famUpon, famOf, isV, Grows.refl]
                      · intro f V hg hl
                        have kk := HE.out V hg
                        simp [Oper.looksAt, Op.operands, Call.operands, famAt, famOf, isV] at hl
                        simp [famWants, boolIs_bool, boolIs_undef, execOp, rho, go_sem, hl, kk, famUpon, famOf, isV, Grows.refl]
                      · intro f V hg hl
                        simp [Oper.looksAt, Op.operands, Call.operands, famAt, famOf, isV] at hl
                        simp [famWants, boolIs_bool, boolIs_undef, execOp, rho, go_sem, hl, famUpon, famOf, isV, Grows.refl]
                        split <;> omega
                      · intro f V hg hl
                        simp [Oper.looksAt, Op.operands, Call.operands, famAt, famOf, isV] at hl
                        simp [famWants, boolIs_bool, boolIs_undef, execOp, rho, go_sem, hl, famUpon, famOf, isV, Grows.refl]
                      · intro f V hg hl
                        simp [Oper.looksAt, Op.operands, Call.operands, famAt, famOf, isV] at hl
                        simp [famWants, boolIs_bool, boolIs_undef, execOp, rho, go_sem, hl, famUpon, famOf, isV, Grows.refl]
                      · trivial
                    · intro u V' hg hu
                      have e91 : u 91 = .int .i64 (max t (F 2)) := hu 91 (by decide)
                      have e93 : u 93 = .pointer (some ⟨g, 785, none⟩) := hu 93 (by decide)
                      simp only [List.drop_succ_cons, List.drop_zero, fill, Act.put, List.setIfInBounds_toArray, List.set_cons_zero, List.set_cons_succ, e91, e93]
                      have hBV := HBP.out.new hg
                      have k10 : V'.cell? ⟨g, 785, none⟩ = some (.int .i64 t) := HB.out V' hg
                      have k10f := hBV.frozen 785
                      clear hu e91 e93 HB HE
                      obtain ⟨w10, hw10⟩ : ∃ W, V'.setCell ⟨g, 785, none⟩ (.int .i64 (max t (F 2))) = W := ⟨_, rfl⟩
                      have hg10 : V'.grownBy w10 (some g) := by rw [← hw10]; exact gb_set (World.grownBy.refl _ _) (.inl rfl) _
                      have hB10 : Blo w10 g T (cs6.setIfInBounds 785 (.int .i64 (max t (F 2)))) := by rw [← hw10]; simpa using hBV.put 785 (.int .i64 (max t (F 2)))
                      have hO10 := (HOW.out.new hg).keep (w' := w10) fun b hb hl => hg10.block b hl (fun e => by
                        injection e with e
                        subst e
                        rcases hb with hb | hb
                        · omega
                        · exact absurd hb.1 (Nat.lt_irrefl _))
                      have HW10 := Lib.hid hw10
                      clear hw10 q5
                      go_wp2
                      go_ret
                      rw [HW10.out]
                      have H0 : B.addE ⟨saw, plain m, t⟩ (F, M) = 0 := B.addE_ok.2 ⟨HQ.out, by simp only [B.dotOf, HA.out, HB'.out]; exact HSW.out⟩
                      refine ⟨ret_int H0.symm, ⟨_, ⟨_, A3, Nh + 1, c3, hB10, ?_, ?_, ?_, HLL.out, hO10.mono hgV (fun b hb => ⟨hb.1, hb.2.imp id fun h => Nat.le_trans hwV h⟩)⟩, ?_⟩, gb_trans (gb_trans hgbW (gb_below hg _)) hg10⟩
                      · rw [B.add_ok H0]
                        have := HSW6.out.far (i := 785) (by omega) (.int .i64 (max t (F 2)))
                        have e1 : (B.put ⟨saw, plain m, t⟩ (F, M)).saw = sawR saw ((a : Int), (b : Int)) M := by
                          funext d
                          simp only [B.put, sawR, B.dotOf, HA.out, HB'.out]
                        rw [e1]
                        exact this
                      · rw [Array.getElem?_setIfInBounds, if_neg (by omega)]
                        exact h784
                      · rw [B.add_ok H0, Array.getElem?_setIfInBounds, if_pos rfl, if_pos (Array.getElem?_eq_some_iff.1 h785).1]
                        rfl
                      · rw [B.add_ok H0]
                        have e1 := put_plain (by rw [← HNh.out]; exact hk) HK.out HX.out ⟨F, M, A', c'⟩ (by simp only [HA.out, HB'.out])
                        rw [← e1, HM2.out, keep_plain m (F := F) (M := M) (by rw [HA.out, HB'.out])]
                        rfl
end Go.Proofs.Ytedcgfcmhaeldaa
