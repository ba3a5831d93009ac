/- Layer 8, the program's: Add. -/
import Derived.Test.YtedcgfcmhaeldaaBkP3
import Derived.Test.YtedcgfcmhaeldaaEvP5
namespace Go.Proofs.Ytedcgfcmhaeldaa
set_option linter.unusedVariables false
set_option linter.unusedSimpArgs false
open Go.ChangeShapes Go.WideShapes Go.ChangeAt Go.RowKit

/-- A block of cells. -/
def CB (w : World) (b : Nat) : Prop := ∃ cs t fr, w.heap[b]? = some (.cells cs t fr)
theorem cell_cb {w : World} {a : Addr} {u : Value} (h : w.cell? a = some u) : CB w a.block := by
  unfold World.cell? at h
  cases e : w.heap[a.block]? with
  | none => rw [e] at h; simp at h
  | some o =>
    rw [e] at h
    cases o with
    | cells cs t fr => exact ⟨cs, t, fr, e⟩
    | _ => simp at h
theorem Rds.cb {w : World} {S : Nat → Prop} {A : Option Addr} {xs : List Value} (h : Rds w S A xs) : Rds w (fun b => S b ∧ CB w b) A xs := fun j u hu => by
  obtain ⟨ad, e, hs, hc⟩ := h j u hu
  have := cell_cb hc
  rw [M.addBlock] at this
  exact ⟨ad, e, ⟨hs, this⟩, hc⟩
/-- What is read stays, whatever becomes of a book. -/
theorem Rds.kpt {w w' : World} {S : Nat → Prop} {A : Option Addr} {xs : List Value} {g : Nat} {m : Option Nat} {f : D.Dot → Option Value} {n : Nat} (h : Rds w S A xs) (hK : Kpt w w' g m) (hS : ∀ b, S b → b ≠ g) (hM : MapM w m f n) : Rds w' S A xs := by
  refine (h.cb.keep fun b hb hl => hK.block b hl (hS b hb.1) ?_).mono fun b hb => hb.1
  rintro rfl
  obtain ⟨cs, t, fr, e⟩ := hb.2
  obtain ⟨es, clock, l, e', _⟩ := hM
  rw [e'] at e
  cases e
theorem PBi.rds {w w' : World} {S S2 : Nat → Prop} {A : Option Addr} {xs : List Value} {g : Nat} {m : Option Nat} {T : D.Dot → Bool} {h : List E.Ev} {t : Int} (k : PBi w S g m T h t) (hr : Rds w S2 A xs) (hK : Kpt w w' g m) (hS : ∀ b, S2 b → b ≠ g) : Rds w' S2 A xs := by
  obtain ⟨f, h3, _⟩ := k.map
  exact hr.kpt hK hS h3
theorem PB.rds {w w' : World} {S S2 : Nat → Prop} {A : Option Addr} {xs : List Value} {g : Nat} {m : Option Nat} {b : B.Bk} (k : PB w S g m b) (hr : Rds w S2 A xs) (hK : Kpt w w' g m) (hS : ∀ b, S2 b → b ≠ g) : Rds w' S2 A xs := by
  obtain ⟨_, T, _, h3⟩ := k
  exact h3.rds hr hK hS
theorem dot_beq (x y : D.Dot) : (x == y) = decide (x = y) := by rw [Bool.eq_iff_iff]; simp
def gone (L : List D.Dot) (x : E.Ev) : Bool := !decide (B.dotOf x ∈ L)
theorem gone_nil (h : List E.Ev) : h.filter (gone []) = h := List.filter_eq_self.2 fun x _ => by simp [gone]
theorem gone_snoc (L : List D.Dot) (d : D.Dot) (h : List E.Ev) : (h.filter (gone L)).filter (notD d) = h.filter (gone (L ++ [d])) := by
  rw [List.filter_filter]
  refine List.filter_congr fun x _ => ?_
  rw [Bool.eq_iff_iff]
  simp only [gone, notD, Bool.and_eq_true, Bool.not_eq_true', decide_eq_false_iff_not, List.mem_append, List.mem_singleton]
  constructor
  · rintro ⟨h1, h2⟩ h3; exact h3.elim h2 h1
  · intro h1; exact ⟨fun h => h1 (.inr h), fun h => h1 (.inl h)⟩
/-- One event is taken out of the map. -/
theorem del_book {w w2 : World} {S : Nat → Prop} {g : Nat} {m : Option Nat} {T : D.Dot → Bool} {h : List E.Ev} {t : Int} {d : D.Dot} {f : D.Dot → Option EvV} {A1 : Option Addr} {c1 : Nat}
    (hB : Blo w g 84 (bcs (D.cU T) A1 (D.cM T).length c1 m t)) (hR : DRd w S A1 (D.cM T)) (hm : MapM w m (fun d => (f d).map EvV.val) h.length) (hT : Ties f h) (hr : ∀ d e, f d = some e → DRd w S e.A e.M)
    (hs : B.Srt h) (hrt : ∀ x ∈ h, E.right x.1 x.2 = true)
    (hm2 : MapM w2 m (delF' d fun x => (f x).map EvV.val) (cntD ((f d).map EvV.val) h.length)) (hg : w.grownBy w2 m) : PBi w2 S g m T (h.filter (notD d)) t := by
  have hk : ∀ x, DB w x → w2.heap[x]? = w.heap[x]? := fun x hx => hg.block x hx.lt (hm.db hx)
  refine ⟨⟨A1, c1, hB.grown hg (hm.blo hB), hR.keep fun x _ hx => hk x hx⟩, ⟨fun x => if x = d then none else f x, ?_, hT.drop d, fun x e he => ?_⟩, B.srt_filter _ hs, fun x hx => hrt x (List.mem_filter.1 hx).1⟩
  · rw [drop_len hT hs]
    have e1 : (fun x => ((fun x => if x = d then none else f x) x).map EvV.val) = delF' d fun x => (f x).map EvV.val := by
      funext x
      by_cases e : x = d <;> simp [e, delF']
    have e2 : (if (f d).isSome then h.length - 1 else h.length) = cntD ((f d).map EvV.val) h.length := by simp [cntD]
    rw [e1, e2]
    exact hm2
  · by_cases e1 : x = d
    · simp [e1] at he
    · simp only [e1, if_false] at he
      exact (hr x e he).keep fun x _ hx => hk x hx
theorem put_hold {b : B.Bk} (hok : B.Ok b) {e : E.Ev} (hs : b.saw (B.dotOf e) = false) : B.ins e (b.hold.filter (gone e.2)) = (B.put b e).hold := by
  unfold B.put
  simp only
  congr 1
  refine List.filter_congr fun x hx => ?_
  have : B.dotOf x ≠ B.dotOf e := fun q => by
    have := hok.seen x hx
    rw [q, hs] at this
    cases this
  simp [gone, this]
/-- How far it has come. -/
def AdSt (w0 : World) (S : Nat → Prop) (g : Nat) (m : Option Nat) (T : D.Dot → Bool) (h : List E.Ev) (t : Int) (a : D.Dot) (L : List D.Dot) (w : World) : Prop :=
  ∃ T', (∀ x, D.may x = true → T' x = (T x || decide (x = a) || decide (x ∈ L))) ∧ PBi w (fun b => S b ∨ w0.heap.size ≤ b) g m T' (h.filter (gone L)) t ∧ Kpt w0 w g m
def AddP (b : B.Bk) (e : E.Ev) (S : Nat → Prop) (g : Nat) (m : Option Nat) (w : World) (r : Ending) (w' : World) : Prop :=
  r = .returned (.int .i64 (B.addE b e)) ∧ (∃ m', PB w' (fun x => S x ∨ w.heap.size ≤ x) g m' (B.add b e) ∧ (m' = m ∨ m = none ∧ ∃ x, m' = some x ∧ w.heap.size ≤ x)) ∧ Kpt w w' g m

set_option maxRecDepth 100000 in
set_option maxHeartbeats 8000000 in
theorem badd_any {S : Nat → Prop} {g : Nat} {m : Option Nat} {b : B.Bk} (S2 : Nat → Prop) (F : Nat → Int) (A : Option Addr) (n c : Nat) (M : List D.Dot) (w : World) (hP : PB w S g m b) (hn : M.length = n) (hr : Rds w S2 A (dvs M)) (hS : ∀ b, S2 b → b ≠ g) (hl : n ≤ maxLen) :
    Calls Try.prog 13 #[.pointer (some ⟨g, 0, none⟩), ev F A n c] w (AddP b (F, M) S g m w) := by
  obtain ⟨w1, hw1⟩ : ∃ W, w.alloc (.cells (ecs F A n c) 43) = W := ⟨_, rfl⟩
  obtain ⟨gx, hgx⟩ : ∃ q, q = w.heap.size := ⟨_, rfl⟩
  have hb1 : Below w.heap.size w w1 := by rw [← hw1]; exact b_alloc _ _
  have hX1 : Blo w1 gx 43 (ecs F A n c) := by rw [← hw1, hgx]; exact Blo.made _ _ _
  have hright := evright_any _ F A n c M w1 hn (hr.new hb1) hl
  have hlt := hP.lt
  have hgxg : gx ≠ g := by omega
  obtain ⟨z0, z1, z2, z3, z4, z5, z6, z7, z8, z9, z10, z11, z12, z13⟩ := set14 hX1
  have HW := Lib.hid hw1
  have HGX := Lib.hid hgx
  have HN := Lib.hid hn
  rw [← hw1, hgx] at z0 z1 z2 z3 z4 z5 z6 z7 z8 z9 z10 z11 z12 z13
  clear hw1 hgx hn
  go_enter Try.func13, Try.ntmps13
  go_wp2_with fail
  rw [HW.out, ← HGX.out]
  refine hright.mono ?_
  rintro e w2 ⟨rfl, hb2⟩
  have hP2 := (hP.new hb1).new hb2
  have hX2 := hX1.new hb2
  have hr2 := (hr.new hb1).new hb2
  have hb02 := below_new hb1 hb2
  have hs02 := hb02.size
  clear hright z0 z1 z2 z3 z4 z5 z6 z7 z8 z9 z10 z11 z12 z13 hX1 hb1 hb2 hr hP
  cases hq : E.right F M with
  | false =>
    have HA : Hid (B.addE b (F, M) = 2) := Lib.hid (by unfold B.addE; simp [hq])
    clear hq
    go_wp2
    go_ret
    refine ⟨ret_int HA.out.symm, ⟨m, ?_, .inl rfl⟩, Kpt.of hb02⟩
    rw [B.add_no (by rw [HA.out]; decide)]
    exact hP2.mono fun x hx => .inl hx
  | true =>
    obtain ⟨hok, T, hT, hPi⟩ := hP2
    obtain ⟨A1, c1, hB, hR⟩ := hPi.blk
    obtain ⟨n1, hn1⟩ : ∃ k, (D.cM T).length = k := ⟨_, rfl⟩
    rw [hn1] at hB
    have hmay := (B.right_may (e := (F, M)) hq).1
    have HB : Hid (∀ V, Grows w2 V → _) := Lib.hid (fun V hV => set11 (hB.new hV))
    have HE : Hid (∀ V, Grows w2 V → _) := Lib.hid (fun V hV => set14 (hX2.new hV))
    have HC : Hid (∀ V, Grows w2 V → Calls Try.prog 36 #[sv (D.cU T) A1 n1 c1, .agg #[.int .i64 (F 0), .int .i64 (F 1)]] V fun e w' => e = .returned (.bool (b.saw (F 0, F 1))) ∧ Below V.heap.size V w') := Lib.hid (fun V hV => by
      have h1 := has_any _ (D.cU T) A1 n1 c1 (D.cM T) (F 0) (F 1) V hn1 (hR.new hV).rds (by have := D.cM_len T; omega)
      rw [D.cl_has, show D.may (F 0, F 1) = true from hmay, Bool.true_and, hT (F 0, F 1) hmay] at h1
      exact h1)
    obtain ⟨U, hU⟩ : ∃ U, U = D.cU T := ⟨_, rfl⟩
    rw [← hU] at HB HC
    have h96 : n ≤ 96 := by have := (B.right_may (e := (F, M)) hq).2.2.2.2; simp only at this; rw [HN.out] at this; exact this
    have HTM := Lib.hid (B.right_may (e := (F, M)) hq).2.2
    have HQ := Lib.hid hq
    have HT := Lib.hid hT
    have HOK := Lib.hid hok
    clear hq hmay hn1 hU hT hok hB hR
    go_wp2_with fail
    refine wp_fam (n := 7) (size := 52) (D := [12, 13, 14, 15, 16, 17, 18]) [(12, isV (.pointer (some ⟨g, 0, none⟩))), (13, isV (.pointer (some ⟨g, 0, none⟩))), (14, isV (.pointer (some ⟨g, 0, none⟩))), (15, isV (sv U A1 n1 c1)), (16, isV (.pointer (some ⟨gx, 0, none⟩))), (17, isV (.agg #[.int .i64 (F 0), .int .i64 (F 1)])), (18, isV (.bool (b.saw (F 0, F 1))))] (by kernel_rfl) (by rfl) (by kernel_rfl) ?_ ?_
    · simp only [List.take_succ_cons, List.take_zero, famAll]
      repeat' apply And.intro
      · intro f V hg hl
        simp [Oper.looksAt, Op.operands, Call.operands, famAt, famOf, isV] at hl
        simp [famWants, boolIs_bool, boolIs_undef, execOp, rho, go_sem, hl, famUpon, famOf, isV, Grows.refl]
      · intro f V hg hl
        simp [Oper.looksAt, Op.operands, Call.operands, famAt, famOf, isV] at hl
        simp [famWants, boolIs_bool, boolIs_undef, execOp, rho, go_sem, hl, famUpon, famOf, isV, Grows.refl]
      · intro f V hg hl
        simp [Oper.looksAt, Op.operands, Call.operands, famAt, famOf, isV] at hl
        simp [famWants, boolIs_bool, boolIs_undef, execOp, rho, go_sem, hl, famUpon, famOf, isV, Grows.refl]
      · intro f V hg hl
        obtain ⟨b0, b1, b2, b3, b4, b5, b6, b7, b8, b9, b10⟩ := HB.out V hg
        simp [Oper.looksAt, Op.operands, Call.operands, famAt, famOf, isV] at hl
        simp [famWants, boolIs_bool, boolIs_undef, execOp, rho, go_sem, hl, b0, b1, b2, b3, b4, b5, b6, b7, b8, b9, b10, famUpon, famOf, isV, Grows.refl]
      · intro f V hg hl
        simp [Oper.looksAt, Op.operands, Call.operands, famAt, famOf, isV] at hl
        simp [famWants, boolIs_bool, boolIs_undef, execOp, rho, go_sem, hl, famUpon, famOf, isV, Grows.refl]
      · intro f V hg hl
        obtain ⟨c0, c1, c2, c3, c4, c5, c6, c7, c8, c9, c10, c11, c12, c13⟩ := HE.out V hg
        simp [Oper.looksAt, Op.operands, Call.operands, famAt, famOf, isV] at hl
        simp [famWants, boolIs_bool, boolIs_undef, execOp, rho, go_sem, hl, c0, c1, c2, c3, c4, c5, c6, c7, c8, c9, c10, c11, c12, c13, famUpon, famOf, isV, Grows.refl]
      · intro f V hg hl
        simp [Oper.looksAt, Op.operands, Call.operands, famAt, famOf, isV] at hl
        simp [famWants, boolIs_bool, boolIs_undef, execOp, rho, go_sem, hl, famUpon, famOf, isV, Grows.refl]
        refine (HC.out V hg).mono ?_
        rintro e w'' ⟨rfl, hb'⟩
        exact ⟨rfl, hb'⟩
      · trivial
    · intro u V hg hu
      obtain ⟨sw, hsw⟩ : ∃ q, q = b.saw (F 0, F 1) := ⟨_, rfl⟩
      have e18 : u 18 = .bool sw := by rw [hsw]; exact hu 18 (by decide)
      simp only [List.drop_succ_cons, List.drop_zero, fill, Act.put, List.setIfInBounds_toArray, List.set_cons_zero, List.set_cons_succ, e18]
      refine wpList_nil ?_
      have hP3 := hPi.new hg
      have hX3 := hX2.new hg
      have hr3 := hr2.new hg
      have hb03 := below_new hb02 hg
      have hs03 := hb03.size
      have HSW := Lib.hid hsw
      clear hu e18 HB HE HC hPi hX2 hr2 hb02 hs02 hg hsw
      cases sw with
      | true =>
        have HA : Hid (B.addE b (F, M) = 9) := Lib.hid (by unfold B.addE; simp [HQ.out, B.dotOf, ← HSW.out])
        go_wp2
        go_ret
        refine ⟨ret_int HA.out.symm, ⟨m, ?_, .inl rfl⟩, Kpt.of hb03⟩
        rw [B.add_no (by rw [HA.out]; decide)]
        exact ⟨HOK.out, T, HT.out, hP3.mono fun x hx => .inl hx⟩
      | false =>
        have hsee := psee_any (F 0) (F 1) V hP3
        have k0 : V.cell? ⟨gx, 0, none⟩ = some (.int .i64 (F 0)) := by simpa using hX3.cell 0
        have k1 : V.cell? ⟨gx, 1, none⟩ = some (.int .i64 (F 1)) := by simpa using hX3.cell 1
        go_wp2_with fail
        refine hsee.mono ?_
        rintro e w4 ⟨rfl, ⟨T4, hT4, hP4⟩, hg4⟩
        have hX4 := hX3.grown hg4 (fun e => by injection e with e; exact hgxg e)
        have hr4 := hr3.grown hg4 (fun b hb _ e => by injection e with e; exact hS b hb e)
        have hK4 : Kpt w w4 g m := (Kpt.of hb03).trans (Kpt.ofG hg4 (.inl rfl)) (.inl rfl)
        have y13 : w4.cell? ⟨gx, 13, none⟩ = some (.slice A n c) := by simpa using hX4.cell 13
        have hA4 : AdSt w S g m T b.hold b.time (F 0, F 1) (M.take 0) w4 := ⟨T4, fun x hx => by rw [hT4 x hx, List.take_zero, dot_beq]; simp, by
          rw [List.take_zero, gone_nil]
          exact hP4.mono fun x hx => hx.imp id fun hx => Nat.le_trans hs03 hx, hK4⟩
        clear hsee k0 k1 hP3 hX3 hr3 hb03 hg4 hT4 hP4
        go_wp2_with fail
        clear y13
        go_loopw [26] (fun iv wr => ∃ i : Nat, iv = .int .i64 i ∧ i ≤ n ∧ AdSt w S g m T b.hold b.time (F 0, F 1) (M.take i) wr ∧ Blo wr gx 43 (ecs F A n c) ∧ Rds wr S2 A (dvs M)) (fun iv _ => n - (intOf iv).toNat)
        case atStart => exact ⟨0, rfl, by omega, hA4, hX4, hr4⟩
        case round =>
          obtain ⟨i, rfl, hi, ⟨Ti, hTi, hPi, hKi⟩, hXi, hri⟩ := hrel
          by_cases hlt : i < n
          · have hlt' : i < M.length := by rw [HN.out]; exact hlt
            obtain ⟨xd, rfl, _, y0, y1⟩ := hri.dot hlt'
            obtain ⟨dd, hdd⟩ : ∃ d, d = M[i] := ⟨_, rfl⟩
            rw [← hdd] at y0 y1
            have HTK : Hid (M.take (i + 1) = M.take i ++ [dd]) := Lib.hid (by rw [List.take_succ_eq_append_getElem hlt', ← hdd])
            obtain ⟨d1, d2⟩ := dd
            simp only at y0 y1
            obtain ⟨gd, hgd⟩ : ∃ q, q = wr.heap.size := ⟨_, rfl⟩
            obtain ⟨w5, hw5⟩ : ∃ W, wr.alloc (.cells #[.int .i64 d1, .int .i64 d2] 39) = W := ⟨_, rfl⟩
            have hb5 : Below wr.heap.size wr w5 := by rw [← hw5]; exact b_alloc _ _
            have hD5 : Blo w5 gd 39 #[.int .i64 d1, .int .i64 d2] := by rw [← hw5, hgd]; exact Blo.made _ _ _
            have hgdg : gd ≠ g := by have := hPi.lt; omega
            have hsee := psee_any d1 d2 w5 (hPi.new hb5)
            have hs5 : w.heap.size ≤ w5.heap.size := Nat.le_trans hKi.size hb5.size
            have HW5 := Lib.hid hw5
            have HGD := Lib.hid hgd
            clear hw5 hdd hgd
            go_wp2_with fail
            rw [HW5.out, ← HGD.out]
            refine hsee.mono ?_
            rintro e w6 ⟨rfl, ⟨T6, hT6, hP6⟩, hg6⟩
            have hX6 := (hXi.new hb5).grown hg6 (fun e => by injection e with e; exact hgxg e)
            have hr6 := (hri.new hb5).grown hg6 (fun b hb _ e => by injection e with e; exact hS b hb e)
            have hD6 := hD5.grown hg6 (fun e => by injection e with e; exact hgdg e)
            have hK6 : Kpt w w6 g m := (hKi.trans (Kpt.of (g := g) (m := m) hb5) (.inl rfl)).trans (Kpt.ofG hg6 (.inl rfl)) (.inl rfl)
            have hP6' := hP6.mono (S' := fun x => S x ∨ w.heap.size ≤ x) fun x hx => by
              rcases hx with (hx | hx) | hx
              · exact .inl hx
              · exact .inr hx
              · exact .inr (Nat.le_trans hs5 hx)
            have HT6 : Hid (∀ x, D.may x = true → T6 x = (T x || decide (x = (F 0, F 1)) || decide (x ∈ M.take (i + 1)))) := Lib.hid fun x hx => by
              rw [hT6 x hx, hTi x hx, HTK.out, dot_beq]
              simp only [List.mem_append, List.mem_singleton, Bool.decide_or, Bool.or_assoc]
            obtain ⟨A2, c2, hB2, hR2⟩ := hP6'.blk
            obtain ⟨f, hm6, hT6', hf6⟩ := hP6'.map
            obtain ⟨n2, hn2⟩ : ∃ k, k = (D.cM T6).length := ⟨_, rfl⟩
            obtain ⟨U2, hU2⟩ : ∃ k, k = D.cU T6 := ⟨_, rfl⟩
            have HB : Hid (∀ V, Grows w6 V → _) := Lib.hid (fun V hV => set11 (hB2.new hV))
            rw [← hn2, ← hU2] at HB
            have HD : Hid (∀ V, Grows w6 V → V.cell? ⟨gd, 0, none⟩ = some (.int .i64 d1) ∧ V.cell? ⟨gd, 1, none⟩ = some (.int .i64 d2)) := Lib.hid (fun V hV => ⟨by simpa using (hD6.new hV).cell 0, by simpa using (hD6.new hV).cell 1⟩)
            have HSR := Lib.hid hP6'.srt
            have HRT := Lib.hid hP6'.rt
            have HF := Lib.hid hf6
            clear hsee y0 y1 hT6 hP6 hP6' hn2 hU2 hf6 hTi hPi hXi hri hKi hb5 hD5 hg6 hD6
            go_wp2_with fail
            refine wp_fam (n := 5) (size := 52) (D := [33, 34, 35, 36, 37]) [(33, isV (.pointer (some ⟨g, 0, none⟩))), (34, isV (.pointer (some ⟨g, 0, none⟩))), (35, isV (.pointer (some ⟨g, 9, none⟩))), (36, isV (.map m)), (37, isV (.agg #[.int .i64 d1, .int .i64 d2]))] (by kernel_rfl) (by rfl) (by kernel_rfl) ?_ ?_
            · simp only [List.take_succ_cons, List.take_zero, famAll]
              repeat' apply And.intro
              · intro f V hg hl
                simp [Oper.looksAt, Op.operands, Call.operands, famAt, famOf, isV] at hl
                simp [famWants, boolIs_bool, boolIs_undef, execOp, rho, go_sem, hl, famUpon, famOf, isV, Grows.refl]
              · intro f V hg hl
                simp [Oper.looksAt, Op.operands, Call.operands, famAt, famOf, isV] at hl
                simp [famWants, boolIs_bool, boolIs_undef, execOp, rho, go_sem, hl, famUpon, famOf, isV, Grows.refl]
              · intro f V hg hl
                simp [Oper.looksAt, Op.operands, Call.operands, famAt, famOf, isV] at hl
                simp [famWants, boolIs_bool, boolIs_undef, execOp, rho, go_sem, hl, famUpon, famOf, isV, Grows.refl]
              · intro f V hg hl
                obtain ⟨b0, b1, b2, b3, b4, b5, b6, b7, b8, b9, b10⟩ := HB.out V hg
                simp [Oper.looksAt, Op.operands, Call.operands, famAt, famOf, isV] at hl
                simp [famWants, boolIs_bool, boolIs_undef, execOp, rho, go_sem, hl, b0, b1, b2, b3, b4, b5, b6, b7, b8, b9, b10, famUpon, famOf, isV, Grows.refl]
              · intro f V hg hl
                obtain ⟨q0, q1⟩ := HD.out V hg
                simp [Oper.looksAt, Op.operands, Call.operands, famAt, famOf, isV] at hl
                simp [famWants, boolIs_bool, boolIs_undef, execOp, rho, go_sem, hl, q0, q1, famUpon, famOf, isV, Grows.refl]
              · trivial
            · intro u V hg hu
              have e36 : u 36 = .map m := hu 36 (by decide)
              have e37 : u 37 = dv (d1, d2) := hu 37 (by decide)
              simp only [List.drop_succ_cons, List.drop_zero, fill, Act.put, List.setIfInBounds_toArray, List.set_cons_zero, List.set_cons_succ, e36, e37]
              have hmV := hm6.keep (w' := V) fun b _ hl => hg.block b hl
              have hBV := hB2.new hg
              have hRV := hR2.new hg
              have hXV := hX6.new hg
              have hrV := hr6.new hg
              have hKV := hK6.trans (Kpt.of (g := g) (m := m) hg) (.inl rfl)
              clear hu e36 e37 HB HD
              go_wp2_with (refine wpList_mdel _ rfl _ _ rfl Try.mapEv m rfl (d1, d2) rfl hmV ?_)
              intro w7 hm7 hg7
              have hP7 := del_book hBV hRV hmV hT6' (fun d e he => (HF.out d e he).new hg) HSR.out HRT.out hm7 hg7
              have hK7' : Kpt V w7 g m := ⟨hg7.os, hg7.tape, hg7.output, hg7.size, fun i hi _ h => hg7.block i hi h⟩
              have hK7 := hKV.trans hK7' (.inl rfl)
              have hX7 := hXV.grown hg7 (hmV.blo hXV)
              have hr7 := hrV.kpt hK7' hS hmV
              rw [gone_snoc, ← HTK.out] at hP7
              have hA7 : AdSt w S g m T b.hold b.time (F 0, F 1) (M.take (i + 1)) w7 := ⟨T6, HT6.out, hP7, hK7⟩
              clear hP7 hK7 hK7' hm7 hg7 hmV hBV hRV hXV hrV hKV hg
              go_wp2
              go_roundw
              case rel => exact ⟨i + 1, by go_num, by omega, hA7, hX7, hr7⟩
              case measure => simp [intOf]; omega
          · have hMt : M.take i = M := List.take_of_length_le (by rw [HN.out]; omega)
            rw [hMt] at hTi hPi
            clear hMt
            obtain ⟨z0, z1, z2, z3, z4, z5, z6, z7, z8, z9, z10, z11, z12, z13⟩ := set14 hXi
            have HTI := Lib.hid hTi
            have hkeep := pkeep_any S2 F A n c M wr hPi HN.out hri hS HQ.out (fun x hx => by
              have h1 := HOK.out.seen x (List.mem_filter.1 hx).1
              intro e
              rw [e, ← HSW.out] at h1
              cases h1)
            clear hTi
            go_wp2_with fail
            refine hkeep.mono ?_
            rintro e w6 ⟨rfl, ⟨m', hP6, hm'⟩, hK6⟩
            have hK06 := hKi.trans hK6 (.inl rfl)
            have hX6 : Blo w6 gx 43 (ecs F A n c) := hXi.keep (hK6.block gx hXi.lt hgxg (by obtain ⟨f, h3, _⟩ := hPi.map; exact h3.blo hXi))
            obtain ⟨A2, c2, hB2, hR2⟩ := hP6.blk
            have HB : Hid (∀ V, Grows w6 V → V.cell? ⟨g, 10, none⟩ = some (.int .i64 b.time)) := Lib.hid (fun V hV => (set11 (hB2.new hV)).2.2.2.2.2.2.2.2.2.2)
            have HE : Hid (∀ V, Grows w6 V → V.cell? ⟨gx, 2, none⟩ = some (.int .i64 (F 2))) := Lib.hid (fun V hV => (set14 (hX6.new hV)).2.2.1)
            clear hkeep z0 z1 z2 z3 z4 z5 z6 z7 z8 z9 z10 z11 z12 z13 hX4 hr4 hA4 hK4
            go_wp2_with fail
            refine wp_fam (n := 10) (size := 52) (D := [42, 43, 44, 45, 46, 47, 48, 49, 50, 51]) [(42, isV (.pointer (some ⟨g, 0, none⟩))), (43, isV (.pointer (some ⟨g, 0, none⟩))), (44, isV (.pointer (some ⟨g, 0, none⟩))), (45, isV (.pointer (some ⟨g, 10, none⟩))), (46, isV (.int .i64 b.time)), (47, isV (.pointer (some ⟨gx, 2, none⟩))), (48, isV (.int .i64 (F 2))), (49, isV (.int .i64 (max b.time (F 2)))), (50, isV (.pointer (some ⟨g, 0, none⟩))), (51, isV (.pointer (some ⟨g, 10, none⟩)))] (by kernel_rfl) (by rfl) (by kernel_rfl) ?_ ?_
            · simp only [List.take_succ_cons, List.take_zero, famAll]
              repeat' apply And.intro
              · intro f V hg hl
                simp [Oper.looksAt, Op.operands, Call.operands, famAt, famOf, isV] at hl
                simp [famWants, boolIs_bool, boolIs_undef, execOp, rho, go_sem, hl, famUpon, famOf, isV, Grows.refl]
              · intro f V hg hl
                simp [Oper.looksAt, Op.operands, Call.operands, famAt, famOf, isV] at hl
                simp [famWants, boolIs_bool, boolIs_undef, execOp, rho, go_sem, hl, famUpon, famOf, isV, Grows.refl]
              · intro f V hg hl
                simp [Oper.looksAt, Op.operands, Call.operands, famAt, famOf, isV] at hl
                simp [famWants, boolIs_bool, boolIs_undef, execOp, rho, go_sem, hl, famUpon, famOf, isV, Grows.refl]
              · intro f V hg hl
                simp [Oper.looksAt, Op.operands, Call.operands, famAt, famOf, isV] at hl
                simp [famWants, boolIs_bool, boolIs_undef, execOp, rho, go_sem, hl, famUpon, famOf, isV, Grows.refl]
              · intro f V hg hl
                have q0 := HB.out V hg
                simp [Oper.looksAt, Op.operands, Call.operands, famAt, famOf, isV] at hl
                simp [famWants, boolIs_bool, boolIs_undef, execOp, rho, go_sem, hl, q0, famUpon, famOf, isV, Grows.refl]
              · intro f V hg hl
                simp [Oper.looksAt, Op.operands, Call.operands, famAt, famOf, isV] at hl
                simp [famWants, boolIs_bool, boolIs_undef, execOp, rho, go_sem, hl, famUpon, famOf, isV, Grows.refl]
              · intro f V hg hl
                have q0 := HE.out V hg
                simp [Oper.looksAt, Op.operands, Call.operands, famAt, famOf, isV] at hl
                simp [famWants, boolIs_bool, boolIs_undef, execOp, rho, go_sem, hl, q0, famUpon, famOf, isV, Grows.refl]
              · intro f V hg hl
                simp [Oper.looksAt, Op.operands, Call.operands, famAt, famOf, isV] at hl
                simp [famWants, boolIs_bool, boolIs_undef, execOp, rho, go_sem, hl, famUpon, famOf, isV, Grows.refl]
                split <;> omega
              · intro f V hg hl
                simp [Oper.looksAt, Op.operands, Call.operands, famAt, famOf, isV] at hl
                simp [famWants, boolIs_bool, boolIs_undef, execOp, rho, go_sem, hl, famUpon, famOf, isV, Grows.refl]
              · intro f V hg hl
                simp [Oper.looksAt, Op.operands, Call.operands, famAt, famOf, isV] at hl
                simp [famWants, boolIs_bool, boolIs_undef, execOp, rho, go_sem, hl, famUpon, famOf, isV, Grows.refl]
              · trivial
            · intro u V hg hu
              have e49 : u 49 = .int .i64 (max b.time (F 2)) := hu 49 (by decide)
              have e51 : u 51 = .pointer (some ⟨g, 10, none⟩) := hu 51 (by decide)
              simp only [List.drop_succ_cons, List.drop_zero, fill, Act.put, List.setIfInBounds_toArray, List.set_cons_zero, List.set_cons_succ, e49, e51]
              have hPV := hP6.new hg
              have hBV := hB2.new hg
              have hRV := hR2.new hg
              have k10 : V.cell? ⟨g, 10, none⟩ = some (.int .i64 b.time) := HB.out V hg
              have k10f := hBV.frozen 10
              have hKV := hK06.trans (Kpt.of (g := g) (m := m) hg) (.inl rfl)
              clear hu e49 e51 HB HE
              obtain ⟨w8, hw8⟩ : ∃ W, V.setCell ⟨g, 10, none⟩ (.int .i64 (max b.time (F 2))) = W := ⟨_, rfl⟩
              have hg8 : V.grownBy w8 (some g) := by rw [← hw8]; exact gb_set (World.grownBy.refl _ _) (.inl rfl) _
              have hB8 : Blo w8 g 84 (bcs (D.cU Ti) A2 (D.cM Ti).length c2 m' (max b.time (F 2))) := by rw [← hw8]; simpa using hBV.put 10 (.int .i64 (max b.time (F 2)))
              have HW8 := Lib.hid hw8
              clear hw8
              go_wp2
              go_ret
              rw [HW8.out]
              have hk : ∀ x, DB V x → w8.heap[x]? = V.heap[x]? := fun x hx => hg8.block x hx.lt (fun e => hx.blo hBV (by decide) (by injection e))
              have H0 : B.addE b (F, M) = 0 := B.addE_ok.2 ⟨HQ.out, HSW.out.symm⟩
              obtain ⟨f, h3, h4, h5⟩ := hPV.map
              refine ⟨ret_int H0.symm, ⟨m', ⟨B.ok_add HOK.out _, Ti, fun x hx => ?_, ?_⟩, ?_⟩, hKV.trans (Kpt.ofG hg8 (.inl rfl)) (.inl rfl)⟩
              · rw [HTI.out x hx, HT.out x hx, B.add_ok H0]; rfl
              · rw [B.add_ok H0]
                have e1 := put_hold HOK.out (e := (F, M)) HSW.out.symm
                have hs6 : w.heap.size ≤ wr.heap.size := hKi.size
                refine ⟨⟨A2, c2, hB8, ?_⟩, ⟨f, ?_, ?_, fun d e he => ?_⟩, ?_, ?_⟩
                · exact (hRV.keep fun x _ hx => hk x hx).mono fun x hx => by
                    rcases hx with (hx | hx) | hx
                    · exact .inl hx
                    · exact .inr hx
                    · exact .inr (Nat.le_trans hs6 hx)
                · rw [← e1]
                  exact h3.keep fun x hx hl => hg8.block x hl (fun e => by injection e with e; rw [e] at hx; exact h3.blo hBV hx)
                · rw [← e1]; exact h4
                · exact ((h5 d e he).keep fun x _ hx => hk x hx).mono fun x hx => by
                    rcases hx with (hx | hx) | hx
                    · exact .inl hx
                    · exact .inr hx
                    · exact .inr (Nat.le_trans hs6 hx)
                · rw [← e1]; exact hPV.srt
                · rw [← e1]; exact hPV.rt
              · rcases hm' with rfl | ⟨h1, x, h2, h3⟩
                · exact .inl rfl
                · exact .inr ⟨h1, x, h2, Nat.le_trans hKi.size h3⟩
end Go.Proofs.Ytedcgfcmhaeldaa
