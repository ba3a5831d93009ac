/- Layer 8, the program's: over. -/
import Derived.Test.YtedcgfcmhaeldaaBkP6
namespace Go.Proofs.Ytedcgfcmhaeldaa
set_option linter.unusedVariables false
set_option linter.unusedSimpArgs false
open Go.ChangeShapes Go.WideShapes Go.ChangeAt Go.RowKit

def pick (h : List E.Ev) (d : D.Dot) : Option E.Ev := h.find? fun x => decide (B.dotOf x = d)
theorem pick_some {f : D.Dot → Option EvV} {h : List E.Ev} (k : Ties f h) (hs : B.Srt h) {d : D.Dot} {e : EvV} (he : f d = some e) : pick h d = some (e.F, e.M) := by
  obtain ⟨h1, h2⟩ := k.out d e he
  clear he k
  induction h with
  | nil => cases h1
  | cons x h ih =>
    have hs' := List.pairwise_cons.1 hs
    unfold pick
    rw [List.find?_cons]
    by_cases q : B.dotOf x = d
    · simp only [q, decide_true]
      rcases List.mem_cons.1 h1 with e' | e'
      · rw [e']
      · have := hs'.1 _ e'
        rw [q, show B.dotOf (e.F, e.M) = d from h2, B.bef_irr] at this
        cases this
    · simp only [q, decide_false]
      rcases List.mem_cons.1 h1 with e' | e'
      · exact absurd (by rw [← e']; exact h2) q
      · exact ih hs'.2 e'
theorem pick_none {f : D.Dot → Option EvV} {h : List E.Ev} (k : Ties f h) {d : D.Dot} (he : f d = none) : pick h d = none := by
  refine List.find?_eq_none.2 fun x hx => ?_
  obtain ⟨e, h1, h2⟩ := k.into x hx
  simp only [decide_eq_true_eq]
  intro q
  rw [q, he] at h1
  cases h1
theorem run_zeroEv (W : World) : (zeroValue 43).run Try.prog W = .ok (ev (fun _ => 0) none 0 0) W := by
  obtain ⟨i0, hi, hz0, _⟩ := info_parts Try.rowEvent
  simp [zeroValue, typeInfo, hi, hz0]
theorem MapM.look {w : World} {m : Option Nat} {f : D.Dot → Option Value} {n : Nat} (h : MapM w m f n) (d : D.Dot) :
    (Instr.lookup 82 (.map m) (dv d) true).run Try.prog w = .ok (.tuple #[(f d).getD (ev (fun _ => 0) none 0 0), .bool (f d).isSome]) w := by
  cases m with
  | none =>
    have := MapF.lookN (w := w) Try.mapEv (run_zeroEv w) d true
    rw [this, h.1 d]
    rfl
  | some b => exact MapF.look h Try.mapEv (run_zeroEv w) d true
/-- What is done for each event: it is handed one after the other. -/
structure Hand (K B p : Nat) (J : List E.Ev → World → Prop) : Prop where
  new : ∀ {l : List E.Ev} {W W' : World}, J l W → Below W.heap.size W W' → J l W'
  call : ∀ (l : List E.Ev) (e : EvV) (W : World), J l W → Rds W (fun b => b < B) e.A (dvs e.M) → e.M.length ≤ 96 → l.length ≤ 800 →
    Calls Try.prog K #[.pointer (some ⟨p, 0, none⟩), e.val] W fun r W' => r = .returned (.tuple #[]) ∧ J (l ++ [(e.F, e.M)]) W' ∧ Below B W W' ∧ ∀ x, DB W x → W'.heap[x]? = W.heap[x]?
def pE (B : Nat) : StG := ⟨fun u w => ∃ g, u = .pointer (some ⟨g, 0, none⟩) ∧ Blo w g 43 (ecs (fun _ => 0) none 0 0) ∧ B ≤ g, fun _ _ _ h ⟨g, e, k, l⟩ => ⟨g, e, k.new h, l⟩⟩
theorem PBi.far {w w' : World} {S : Nat → Prop} {g B : Nat} {m : Option Nat} {T : D.Dot → Bool} {h : List E.Ev} {t : Int} (k : PBi w (fun b => S b ∧ b < B) g m T h t) (hb : Below B w w') (hg : g < B) (hm : ∀ x, m = some x → x < B) : PBi w' (fun b => S b ∧ b < B) g m T h t :=
  k.keep fun b _ hb' => hb.block b (by
    rcases hb' with rfl | h | h
    · exact hg
    · exact hm b h.symm
    · exact h.1.2)
theorem fm_snoc {α β : Type} (f : α → Option β) (l : List α) (x : α) : (l ++ [x]).filterMap f = l.filterMap f ++ (f x).toList := by
  rw [List.filterMap_append]
  cases h : f x <;> simp [h]
theorem fm_len {α β : Type} (f : α → Option β) (l : List α) : (l.filterMap f).length ≤ l.length := List.length_filterMap_le f l

set_option maxRecDepth 100000 in
set_option maxHeartbeats 8000000 in
theorem pover_any {K B p g : Nat} {J : List E.Ev → World → Prop} {S S3 : Nat → Prop} {m : Option Nat} {T : D.Dot → Bool} {h : List E.Ev} {t : Int} (hK : K = 52 ∨ K = 50) (hd : Hand K B p J) (A : Option Addr) (n c : Nat) (L : List D.Dot) (w : World)
    (hP : PBi w (fun b => S b ∧ b < B) g m T h t) (hg : g < B) (hm : ∀ x, m = some x → x < B) (hBw : B ≤ w.heap.size) (hn : L.length = n) (hr : DRd w S3 A L) (hl : n ≤ 768) (hJ : J [] w) :
    Calls Try.prog 49 #[.pointer (some ⟨g, 0, none⟩), .slice A n c, .func (.func K) #[.pointer (some ⟨p, 0, none⟩)] #[]] w fun e w' => e = .returned (.tuple #[]) ∧ J (L.filterMap (pick h)) w' ∧ Below B w w' := by
  have HN := Lib.hid hn
  have HD := Lib.hid hd
  clear hn hd
  have gen : ∀ K', K' = K → (K' = 52 ∨ K' = 50) := fun K' e => by rw [e]; exact hK
  rcases gen K rfl with e | e
  all_goals
    subst e
    clear gen hK
    go_enter Try.func49, Try.ntmps49
    go_wp2_with fail
    go_loopw [12] (fun iv wr => ∃ i : Nat, iv = .int .i64 i ∧ i ≤ n ∧ PBi wr (fun b => S b ∧ b < B) g m T h t ∧ DRd wr S3 A L ∧ J ((L.take i).filterMap (pick h)) wr ∧ Below B w wr) (fun iv _ => n - (intOf iv).toNat)
    case atStart => exact ⟨0, rfl, by omega, hP, hr, by simpa using hJ, Below.refl _ _⟩
    case round =>
      obtain ⟨i, rfl, hi, hPi, hri, hJi, hbi⟩ := hrel
      by_cases hlt : i < n
      · have hlt' : i < L.length := by rw [HN.out]; exact hlt
        obtain ⟨xd, rfl, _, y0, y1⟩ := hri.rds.dot hlt'
        obtain ⟨dd, hdd⟩ : ∃ d, d = L[i] := ⟨_, rfl⟩
        rw [← hdd] at y0 y1
        have HTK : Hid ((L.take (i + 1)).filterMap (pick h) = (L.take i).filterMap (pick h) ++ (pick h dd).toList) := Lib.hid (by rw [List.take_succ_eq_append_getElem hlt', ← hdd, fm_snoc])
        have hlen : ((L.take i).filterMap (pick h)).length ≤ 800 := by
          have h1 := fm_len (pick h) (L.take i)
          have h2 : (L.take i).length ≤ i := by simp; omega
          omega
        have HLEN := Lib.hid hlen
        obtain ⟨l, hll⟩ : ∃ l, l = (L.take i).filterMap (pick h) := ⟨_, rfl⟩
        rw [← hll] at hJi HTK HLEN
        obtain ⟨d1, d2⟩ := dd
        simp only at y0 y1
        obtain ⟨gd, hgd⟩ : ∃ q, q = wr.heap.size := ⟨_, rfl⟩
        obtain ⟨w5, hw5⟩ : ∃ W, wr.alloc (.cells #[.int .i64 d1, .int .i64 d2] 39) = W := ⟨_, rfl⟩
        have hb5 : Below wr.heap.size wr w5 := by rw [← hw5]; exact b_alloc _ _
        have hD5 : Blo w5 gd 39 #[.int .i64 d1, .int .i64 d2] := by rw [← hw5, hgd]; exact Blo.made _ _ _
        have hP5 := hPi.new hb5
        have hr5 := hri.new hb5
        have hJ5 := HD.out.new hJi hb5
        have hb05 : Below B w w5 := hbi.trans (hb5.mono (Nat.le_trans hBw hbi.size))
        have hB5 : B ≤ w5.heap.size := Nat.le_trans hBw hb05.size
        have HW5 := Lib.hid hw5
        have HGD := Lib.hid hgd
        obtain ⟨A1, c1, hBk, hR1⟩ := hP5.blk
        obtain ⟨f, hmp, hT, hf⟩ := hP5.map
        have HB : Hid (∀ V, Grows w5 V → V.cell? ⟨g, 9, none⟩ = some (.map m)) := Lib.hid (fun V hV => (set11 (hBk.new hV)).2.2.2.2.2.2.2.2.2.1)
        have HDD : Hid (∀ V, Grows w5 V → V.cell? ⟨gd, 0, none⟩ = some (.int .i64 d1) ∧ V.cell? ⟨gd, 1, none⟩ = some (.int .i64 d2)) := Lib.hid (fun V hV => ⟨by simpa using (hD5.new hV).cell 0, by simpa using (hD5.new hV).cell 1⟩)
        have HL : Hid (∀ V, Grows w5 V → (Instr.lookup 82 (.map m) (.agg #[.int .i64 d1, .int .i64 d2]) true).run Try.prog V = .ok (.tuple #[((f (d1, d2)).map EvV.val).getD (ev (fun _ => 0) none 0 0), .bool ((f (d1, d2)).map EvV.val).isSome]) V) := Lib.hid (fun V hV => MapM.look (hmp.keep fun b _ hl => hV.block b hl) (d1, d2))
        have HS := Lib.hid hP5.srt
        have HR := Lib.hid hP5.rt
        clear hw5 hgd hdd hll hlen hPi hri hJi hbi hb5 hD5 hBk hR1
        cases hfd : f (d1, d2) with
        | none =>
          have HPN : Hid (pick h (d1, d2) = none) := Lib.hid (pick_none hT hfd)
          rw [hfd] at HL
          simp only [Option.map_none, Option.getD_none, Option.isSome_none] at HL
          rw [HPN.out] at HTK
          clear hfd hT hf hmp
          go_wp2_with fail
          rw [HW5.out, ← HGD.out]
          refine wp_famF (n := 10) (size := 30) (D := [17, 18, 19, 20, 21, 22, 16, 23, 24, 8]) [8] [(17, isV (.pointer (some ⟨g, 0, none⟩))), (18, isV (.pointer (some ⟨g, 0, none⟩))), (19, isV (.pointer (some ⟨g, 9, none⟩))), (20, isV (.map m)), (21, isV (.agg #[.int .i64 d1, .int .i64 d2])), (22, isV (.tuple #[ev (fun _ => 0) none 0 0, .bool false])), (16, isV (.tuple #[ev (fun _ => 0) none 0 0, .bool false])), (23, isV (ev (fun _ => 0) none 0 0)), (24, isV (.bool false)), (8, pE w5.heap.size)] (by kernel_rfl) (by rfl) (by kernel_rfl) (fun _ _ d _ _ h => by cases d <;> exact h) ?_ ?_
          · simp only [List.take_succ_cons, List.take_zero, famAllF]
            repeat' apply And.intro
            · rw [if_neg (by decide)]
              intro f V hg hl
              simp [Oper.looksAt, Op.operands, Call.operands, famAt, famOf, isV] at hl
              simp [famWants, boolIs_bool, boolIs_undef, execOp, rho, go_sem, hl, famUpon, famOf, isV, isAlloc, Grows.refl]
            · rw [if_neg (by decide)]
              intro f V hg hl
              simp [Oper.looksAt, Op.operands, Call.operands, famAt, famOf, isV] at hl
              simp [famWants, boolIs_bool, boolIs_undef, execOp, rho, go_sem, hl, famUpon, famOf, isV, isAlloc, Grows.refl]
            · rw [if_neg (by decide)]
              intro f V hg hl
              simp [Oper.looksAt, Op.operands, Call.operands, famAt, famOf, isV] at hl
              simp [famWants, boolIs_bool, boolIs_undef, execOp, rho, go_sem, hl, famUpon, famOf, isV, isAlloc, Grows.refl]
            · rw [if_neg (by decide)]
              intro f V hg hl
              have q0 := HB.out V hg
              simp [Oper.looksAt, Op.operands, Call.operands, famAt, famOf, isV] at hl
              simp [famWants, boolIs_bool, boolIs_undef, execOp, rho, go_sem, hl, q0, famUpon, famOf, isV, isAlloc, Grows.refl]
            · rw [if_neg (by decide)]
              intro f V hg hl
              obtain ⟨q0, q1⟩ := HDD.out V hg
              simp [Oper.looksAt, Op.operands, Call.operands, famAt, famOf, isV] at hl
              simp [famWants, boolIs_bool, boolIs_undef, execOp, rho, go_sem, hl, q0, q1, famUpon, famOf, isV, isAlloc, Grows.refl]
            · rw [if_neg (by decide)]
              intro f V hg hl
              have q0 := HL.out V hg
              simp [Oper.looksAt, Op.operands, Call.operands, famAt, famOf, isV] at hl
              simp [famWants, boolIs_bool, boolIs_undef, execOp, rho, go_sem, hl, q0, famUpon, famOf, isV, isAlloc, Grows.refl]
            · rw [if_neg (by decide)]
              intro f V hg hl
              simp [Oper.looksAt, Op.operands, Call.operands, famAt, famOf, isV] at hl
              simp [famWants, boolIs_bool, boolIs_undef, execOp, rho, go_sem, hl, famUpon, famOf, isV, isAlloc, Grows.refl]
            · rw [if_neg (by decide)]
              intro f V hg hl
              simp [Oper.looksAt, Op.operands, Call.operands, famAt, famOf, isV] at hl
              simp [famWants, boolIs_bool, boolIs_undef, execOp, rho, go_sem, hl, famUpon, famOf, isV, isAlloc, Grows.refl]
            · rw [if_pos (by decide)]
              intro f V hg hl
              simp [Oper.looksAt, Op.operands, Call.operands, famAt, famOf, isV] at hl
              refine ⟨by simp [famWants], .bool false, fun w' => by simp [execOp, rho, go_sem, hl], fun d hd => by cases hd; rfl⟩
            · rw [if_neg (by decide)]
              intro f V hg hl
              simp [Oper.looksAt, Op.operands, Call.operands, famAt, famOf, isV] at hl
              simp [famWants, boolIs_bool, boolIs_undef, execOp, rho, go_sem, hl, Grows.alloc, famUpon, famOf, isV, isAlloc, Grows.refl]
              exact ⟨_, rfl, Blo.made _ _ _, Below.size hg⟩
            · trivial
          · intro u V hg hu _
            obtain ⟨ge, e8, hBe, hge⟩ : ∃ ge, u 8 = .pointer (some ⟨ge, 0, none⟩) ∧ Blo V ge 43 (ecs (fun _ => 0) none 0 0) ∧ w5.heap.size ≤ ge := hu 8 (by decide)
            have e23 : u 23 = ev (fun _ => 0) none 0 0 := hu 23 (by decide)
            have e24 : u 24 = .bool false := hu 24 (by decide)
            simp only [List.drop_succ_cons, List.drop_zero, fill, Act.put, List.setIfInBounds_toArray, List.set_cons_zero, List.set_cons_succ, e8, e23, e24]
            clear hu e8 e23 e24
            go_wp2_with (refine wpList_sete _ rfl _ _ rfl ge _ rfl (fun _ => 0) none 0 0 rfl hBe rfl ?_)
            intro w7 hB7 hg7
            have hb57 : Below w5.heap.size w5 w7 := Below.grown hg hg7 (Below.size hg) (fun k hk => by injection hk with hk; omega)
            have hP7 := hP5.new hb57
            have hr7 := hr5.new hb57
            have hJ7 := HD.out.new hJ5 hb57
            have hb07 := hb05.trans (hb57.mono hB5)
            clear hg hBe hB7 hg7 HB HDD HL
            go_wp2
            go_roundw
            case rel => exact ⟨i + 1, by go_num, by omega, hP7, hr7, by rw [HTK.out]; simpa using hJ7, hb07⟩
            case measure => simp [intOf]; omega
        | some e =>
          have HPN : Hid (pick h (d1, d2) = some (e.F, e.M)) := Lib.hid (pick_some hT HS.out hfd)
          have hre := (hf _ e hfd).rds
          have h96 : e.M.length ≤ 96 := (Go.Proofs.Ytedcgfcmhaeldaa.B.right_may (HR.out _ (hT.out _ e hfd).1)).2.2.2.2
          rw [hfd] at HL
          simp only [Option.map_some, Option.getD_some, Option.isSome_some] at HL
          rw [HPN.out] at HTK
          have HCALL := Lib.hid (fun W => HD.out.call l e W)
          obtain ⟨F, M, Ae, ce⟩ := e
          simp only [EvV.val] at HL HCALL hre h96
          obtain ⟨q, hq⟩ : ∃ q, q = M.length := ⟨_, rfl⟩
          rw [← hq] at HL HCALL h96
          clear hfd hT hf hmp hq
          go_wp2_with fail
          rw [HW5.out, ← HGD.out]
          refine wp_famF (n := 10) (size := 30) (D := [17, 18, 19, 20, 21, 22, 16, 23, 24, 8]) [8] [(17, isV (.pointer (some ⟨g, 0, none⟩))), (18, isV (.pointer (some ⟨g, 0, none⟩))), (19, isV (.pointer (some ⟨g, 9, none⟩))), (20, isV (.map m)), (21, isV (.agg #[.int .i64 d1, .int .i64 d2])), (22, isV (.tuple #[ev F Ae q ce, .bool true])), (16, isV (.tuple #[ev F Ae q ce, .bool true])), (23, isV (ev F Ae q ce)), (24, isV (.bool true)), (8, pE w5.heap.size)] (by kernel_rfl) (by rfl) (by kernel_rfl) (fun _ _ d _ _ h => by cases d <;> exact h) ?_ ?_
          · simp only [List.take_succ_cons, List.take_zero, famAllF]
            repeat' apply And.intro
            · rw [if_neg (by decide)]
              intro f V hg hl
              simp [Oper.looksAt, Op.operands, Call.operands, famAt, famOf, isV] at hl
              simp [famWants, boolIs_bool, boolIs_undef, execOp, rho, go_sem, hl, famUpon, famOf, isV, isAlloc, Grows.refl]
            · rw [if_neg (by decide)]
              intro f V hg hl
              simp [Oper.looksAt, Op.operands, Call.operands, famAt, famOf, isV] at hl
              simp [famWants, boolIs_bool, boolIs_undef, execOp, rho, go_sem, hl, famUpon, famOf, isV, isAlloc, Grows.refl]
            · rw [if_neg (by decide)]
              intro f V hg hl
              simp [Oper.looksAt, Op.operands, Call.operands, famAt, famOf, isV] at hl
              simp [famWants, boolIs_bool, boolIs_undef, execOp, rho, go_sem, hl, famUpon, famOf, isV, isAlloc, Grows.refl]
            · rw [if_neg (by decide)]
              intro f V hg hl
              have q0 := HB.out V hg
              simp [Oper.looksAt, Op.operands, Call.operands, famAt, famOf, isV] at hl
              simp [famWants, boolIs_bool, boolIs_undef, execOp, rho, go_sem, hl, q0, famUpon, famOf, isV, isAlloc, Grows.refl]
            · rw [if_neg (by decide)]
              intro f V hg hl
              obtain ⟨q0, q1⟩ := HDD.out V hg
              simp [Oper.looksAt, Op.operands, Call.operands, famAt, famOf, isV] at hl
              simp [famWants, boolIs_bool, boolIs_undef, execOp, rho, go_sem, hl, q0, q1, famUpon, famOf, isV, isAlloc, Grows.refl]
            · rw [if_neg (by decide)]
              intro f V hg hl
              have q0 := HL.out V hg
              simp [Oper.looksAt, Op.operands, Call.operands, famAt, famOf, isV] at hl
              simp [famWants, boolIs_bool, boolIs_undef, execOp, rho, go_sem, hl, q0, famUpon, famOf, isV, isAlloc, Grows.refl]
            · rw [if_neg (by decide)]
              intro f V hg hl
              simp [Oper.looksAt, Op.operands, Call.operands, famAt, famOf, isV] at hl
              simp [famWants, boolIs_bool, boolIs_undef, execOp, rho, go_sem, hl, famUpon, famOf, isV, isAlloc, Grows.refl]
            · rw [if_neg (by decide)]
              intro f V hg hl
              simp [Oper.looksAt, Op.operands, Call.operands, famAt, famOf, isV] at hl
              simp [famWants, boolIs_bool, boolIs_undef, execOp, rho, go_sem, hl, famUpon, famOf, isV, isAlloc, Grows.refl]
            · rw [if_pos (by decide)]
              intro f V hg hl
              simp [Oper.looksAt, Op.operands, Call.operands, famAt, famOf, isV] at hl
              refine ⟨by simp [famWants], .bool true, fun w' => by simp [execOp, rho, go_sem, hl], fun d hd => by cases hd; rfl⟩
            · rw [if_neg (by decide)]
              intro f V hg hl
              simp [Oper.looksAt, Op.operands, Call.operands, famAt, famOf, isV] at hl
              simp [famWants, boolIs_bool, boolIs_undef, execOp, rho, go_sem, hl, Grows.alloc, famUpon, famOf, isV, isAlloc, Grows.refl]
              exact ⟨_, rfl, Blo.made _ _ _, Below.size hg⟩
            · trivial
          · intro u V hg hu _
            obtain ⟨ge, e8, hBe, hge⟩ : ∃ ge, u 8 = .pointer (some ⟨ge, 0, none⟩) ∧ Blo V ge 43 (ecs (fun _ => 0) none 0 0) ∧ w5.heap.size ≤ ge := hu 8 (by decide)
            have e23 : u 23 = ev F Ae q ce := hu 23 (by decide)
            have e24 : u 24 = .bool true := hu 24 (by decide)
            simp only [List.drop_succ_cons, List.drop_zero, fill, Act.put, List.setIfInBounds_toArray, List.set_cons_zero, List.set_cons_succ, e8, e23, e24]
            clear hu e8 e23 e24
            go_wp2_with (refine wpList_sete _ rfl _ _ rfl ge _ rfl F Ae q ce rfl hBe rfl ?_)
            intro w7 hB7 hg7
            have hb57 : Below w5.heap.size w5 w7 := Below.grown hg hg7 (Below.size hg) (fun k hk => by injection hk with hk; omega)
            have hP7 := hP5.new hb57
            have hr7 := hr5.new hb57
            have hJ7 := HD.out.new hJ5 hb57
            have hre7 := (hre.new hb57).mono (S' := fun b => b < B) fun b hb => hb.2
            have hb07 := hb05.trans (hb57.mono hB5)
            have hcall := HCALL.out w7 hJ7 hre7 h96 HLEN.out
            obtain ⟨c0, c1', c2, c3, c4, c5, c6, c7, c8, c9, c10, c11, c12, c13⟩ := set14 hB7
            clear hg hBe hB7 hg7 HB HDD HL HCALL hre7 hJ7
            go_wp2_with fail
            refine hcall.mono ?_
            rintro e w8 ⟨rfl, hJ8, hb8, hk8⟩
            have hP8 := hP7.far hb8 (by assumption) hm
            have hr8 := hr7.keep fun x _ hx => hk8 x hx
            have hb08 := hb07.trans hb8
            clear c0 c1' c2 c3 c4 c5 c6 c7 c8 c9 c10 c11 c12 c13 hcall
            go_wp2
            go_roundw
            case rel => exact ⟨i + 1, by go_num, by omega, hP8, hr8, by rw [HTK.out]; simpa using hJ8, hb08⟩
            case measure => simp [intOf]; omega
      · have hLt : L.take i = L := List.take_of_length_le (by rw [HN.out]; omega)
        rw [hLt] at hJi
        go_wp2
        go_end0
        exact ⟨rfl, hJi, hbi⟩
end Go.Proofs.Ytedcgfcmhaeldaa
