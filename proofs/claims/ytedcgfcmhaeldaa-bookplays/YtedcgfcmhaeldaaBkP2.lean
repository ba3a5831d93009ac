/- Layer 8, the program's: its book in memory; New, Clock, see, keep. -/
import Derived.Test.YtedcgfcmhaeldaaBkP1
import Derived.Test.YtedcgfcmhaeldaaFam
namespace Go.Proofs.Ytedcgfcmhaeldaa
set_option linter.unusedVariables false
set_option linter.unusedSimpArgs false
open Go.ChangeShapes Go.WideShapes Go.ChangeAt Go.RowKit

abbrev bcs (U : Nat → Int) (A : Option Addr) (n c : Nat) (m : Option Nat) (t : Int) : Array Value := #[.int .i64 (U 0), .int .i64 (U 1), .int .i64 (U 2), .int .i64 (U 3), .int .i64 (U 4), .int .i64 (U 5), .int .i64 (U 6), .int .i64 (U 7), .slice A n c, .map m, .int .i64 t]
theorem set11 {w : World} {r : Nat} {t : TypeId} {U : Nat → Int} {A : Option Addr} {n c : Nat} {m : Option Nat} {x : Int} (h : Blo w r t (bcs U A n c m x)) :
    w.cell? ⟨r, 0, none⟩ = some (.int .i64 (U 0)) ∧ w.cell? ⟨r, 1, none⟩ = some (.int .i64 (U 1)) ∧ w.cell? ⟨r, 2, none⟩ = some (.int .i64 (U 2)) ∧ w.cell? ⟨r, 3, none⟩ = some (.int .i64 (U 3)) ∧ w.cell? ⟨r, 4, none⟩ = some (.int .i64 (U 4)) ∧ w.cell? ⟨r, 5, none⟩ = some (.int .i64 (U 5)) ∧ w.cell? ⟨r, 6, none⟩ = some (.int .i64 (U 6)) ∧
      w.cell? ⟨r, 7, none⟩ = some (.int .i64 (U 7)) ∧ w.cell? ⟨r, 8, none⟩ = some (.slice A n c) ∧ w.cell? ⟨r, 9, none⟩ = some (.map m) ∧ w.cell? ⟨r, 10, none⟩ = some (.int .i64 x) :=
  ⟨by simpa using h.cell 0, by simpa using h.cell 1, by simpa using h.cell 2, by simpa using h.cell 3, by simpa using h.cell 4, by simpa using h.cell 5, by simpa using h.cell 6, by simpa using h.cell 7, by simpa using h.cell 8, by simpa using h.cell 9, by simpa using h.cell 10⟩
/-- A map that may be nil. -/
def MapM (w : World) (m : Option Nat) (f : D.Dot → Option Value) (n : Nat) : Prop := match m with | none => (∀ d, f d = none) ∧ n = 0 | some h => MapF w h f n
theorem MapM.keep {w w' : World} {m : Option Nat} {f : D.Dot → Option Value} {n : Nat} (h : MapM w m f n) (hk : ∀ b, some b = m → b < w.heap.size → w'.heap[b]? = w.heap[b]?) : MapM w' m f n := by
  cases m with
  | none => exact h
  | some b => exact MapF.keep h (hk b rfl (MapF.lt h))
theorem MapM.blo {w : World} {m : Option Nat} {f : D.Dot → Option Value} {n g : Nat} {t : TypeId} {cs : Array Value} (h : MapM w m f n) (k : Blo w g t cs) : some g ≠ m := by
  rintro rfl
  obtain ⟨es, clock, l, e, _⟩ := h
  rw [show w.heap[g]? = _ from k] at e
  cases e
theorem MapM.db {w : World} {m : Option Nat} {f : D.Dot → Option Value} {n b : Nat} (h : MapM w m f n) (k : DB w b) : some b ≠ m := by
  rintro rfl
  exact k.map h rfl
theorem MapM.lt {w : World} {m : Option Nat} {f : D.Dot → Option Value} {n b : Nat} (h : MapM w m f n) (k : m = some b) : b < w.heap.size := by
  subst k
  exact MapF.lt h
/-- What a map says of dots, and the events that hold. -/
structure Ties (f : D.Dot → Option EvV) (h : List E.Ev) : Prop where
  out : ∀ d e, f d = some e → (e.F, e.M) ∈ h ∧ (e.F 0, e.F 1) = d
  into : ∀ x ∈ h, ∃ e, f (B.dotOf x) = some e ∧ (e.F, e.M) = x
theorem Ties.nil : Ties (fun _ => none) [] := ⟨fun d e h => (by cases h), fun x hx => (by cases hx)⟩
def notD (d : D.Dot) (x : E.Ev) : Bool := !decide (B.dotOf x = d)
theorem Ties.drop {f : D.Dot → Option EvV} {h : List E.Ev} (k : Ties f h) (d : D.Dot) : Ties (fun x => if x = d then none else f x) (h.filter (notD d)) := by
  refine ⟨fun x e he => ?_, fun x hx => ?_⟩
  · by_cases q : x = d
    · simp [q] at he
    · simp only [q, if_false] at he
      obtain ⟨h1, h2⟩ := k.out x e he
      refine ⟨List.mem_filter.2 ⟨h1, ?_⟩, h2⟩
      simp only [notD, B.dotOf, h2, q, decide_false, Bool.not_false]
  · obtain ⟨h1, h2⟩ := List.mem_filter.1 hx
    obtain ⟨e, h3, h4⟩ := k.into x h1
    refine ⟨e, ?_, h4⟩
    simp [notD] at h2
    simp [h2, h3]
theorem drop_len {f : D.Dot → Option EvV} {h : List E.Ev} (k : Ties f h) (hs : B.Srt h) (d : D.Dot) : (h.filter (notD d)).length = if (f d).isSome then h.length - 1 else h.length := by
  cases hf : f d with
  | none =>
    have : h.filter (notD d) = h := List.filter_eq_self.2 fun x hx => by
      obtain ⟨e, h1, h2⟩ := k.into x hx
      simp only [notD, Bool.not_eq_true', decide_eq_false_iff_not]
      intro e'
      rw [e', hf] at h1
      cases h1
    simp [this]
  | some e =>
    obtain ⟨h1, h2⟩ := k.out d e hf
    clear hf k
    simp only [Option.isSome_some, if_true]
    induction h with
    | nil => cases h1
    | cons x h ih =>
      have hs' := List.pairwise_cons.1 hs
      by_cases q : B.dotOf x = d
      · have : h.filter (notD d) = h := List.filter_eq_self.2 fun y hy => by
          simp only [notD, Bool.not_eq_true', decide_eq_false_iff_not]
          intro e'
          have := hs'.1 y hy
          rw [q, e', B.bef_irr] at this
          cases this
        rw [List.filter_cons_of_neg (by simp [notD, q]), this]
        simp
      · rw [List.filter_cons_of_pos (by simp [notD, q])]
        have h1' : (e.F, e.M) ∈ h := by
          rcases List.mem_cons.1 h1 with e' | e'
          · exact absurd (by rw [← e']; exact h2) q
          · exact e'
        have hl := ih hs'.2 h1'
        have : 0 < h.length := List.length_pos_of_mem h1'
        simp only [List.length_cons]
        omega
theorem ins_len (e : E.Ev) : ∀ l : List E.Ev, (B.ins e l).length = l.length + 1
  | [] => rfl
  | x :: l => by
    unfold B.ins
    split
    · simp [ins_len e l]
    · rfl
theorem Ties.put {f : D.Dot → Option EvV} {h : List E.Ev} (k : Ties f h) (e : EvV) (hn : ∀ x ∈ h, B.dotOf x ≠ (e.F 0, e.F 1)) : Ties (fun x => if x = (e.F 0, e.F 1) then some e else f x) (B.ins (e.F, e.M) h) := by
  refine ⟨fun x y he => ?_, fun x hx => ?_⟩
  · by_cases q : x = (e.F 0, e.F 1)
    · simp only [q, if_true] at he
      injection he with he
      subst he
      exact ⟨B.mem_ins.2 (.inl rfl), q.symm⟩
    · simp only [q, if_false] at he
      obtain ⟨h1, h2⟩ := k.out x y he
      exact ⟨B.mem_ins.2 (.inr h1), h2⟩
  · rcases B.mem_ins.1 hx with rfl | h1
    · exact ⟨e, by simp [B.dotOf], rfl⟩
    · obtain ⟨y, h3, h4⟩ := k.into x h1
      exact ⟨y, by simp [hn x h1, h3], h4⟩
/-- The program's book at block g, its map m, its rows in blocks of S. -/
structure PBi (w : World) (S : Nat → Prop) (g : Nat) (m : Option Nat) (T : D.Dot → Bool) (h : List E.Ev) (t : Int) : Prop where
  blk : ∃ A c, Blo w g 84 (bcs (D.cU T) A (D.cM T).length c m t) ∧ DRd w S A (D.cM T)
  map : ∃ f : D.Dot → Option EvV, MapM w m (fun d => (f d).map EvV.val) h.length ∧ Ties f h ∧ ∀ d e, f d = some e → DRd w S e.A e.M
  srt : B.Srt h
  rt : ∀ x ∈ h, E.right x.1 x.2 = true
section
variable {w w' : World} {S S' : Nat → Prop} {g : Nat} {m : Option Nat} {T : D.Dot → Bool} {h : List E.Ev} {t : Int}
theorem PBi.keep (k : PBi w S g m T h t) (hk : ∀ b, b < w.heap.size → b = g ∨ some b = m ∨ (S b ∧ DB w b) → w'.heap[b]? = w.heap[b]?) : PBi w' S g m T h t := by
  obtain ⟨A, c, h1, h2⟩ := k.blk
  obtain ⟨f, h3, h4, h5⟩ := k.map
  exact ⟨⟨A, c, h1.keep (hk g h1.lt (.inl rfl)), h2.keep fun b hs hd => hk b hd.lt (.inr (.inr ⟨hs, hd⟩))⟩, ⟨f, h3.keep fun b hb hl => hk b hl (.inr (.inl hb)), h4, fun d e he => (h5 d e he).keep fun b hs hd => hk b hd.lt (.inr (.inr ⟨hs, hd⟩))⟩, k.srt, k.rt⟩
theorem PBi.new (k : PBi w S g m T h t) (hb : Below w.heap.size w w') : PBi w' S g m T h t := k.keep fun b hl _ => hb.block b hl
theorem PBi.mono (k : PBi w S g m T h t) (hS : ∀ b, S b → S' b) : PBi w S' g m T h t := by
  obtain ⟨A, c, h1, h2⟩ := k.blk
  obtain ⟨f, h3, h4, h5⟩ := k.map
  exact ⟨⟨A, c, h1, h2.mono hS⟩, ⟨f, h3, h4, fun d e he => (h5 d e he).mono hS⟩, k.srt, k.rt⟩
theorem PBi.lt (k : PBi w S g m T h t) : g < w.heap.size := by obtain ⟨A, c, h1, _⟩ := k.blk; exact h1.lt
theorem PBi.ltm (k : PBi w S g m T h t) {b : Nat} (e : m = some b) : b < w.heap.size := by obtain ⟨f, h3, _⟩ := k.map; exact h3.lt e
end
/-- A book that is right. -/
def PB (w : World) (S : Nat → Prop) (g : Nat) (m : Option Nat) (b : B.Bk) : Prop := B.Ok b ∧ ∃ T, (∀ x, D.may x = true → T x = b.saw x) ∧ PBi w S g m T b.hold b.time
theorem PB.new {w w' : World} {S : Nat → Prop} {g : Nat} {m : Option Nat} {b : B.Bk} (k : PB w S g m b) (hb : Below w.heap.size w w') : PB w' S g m b := by
  obtain ⟨h1, T, h2, h3⟩ := k
  exact ⟨h1, T, h2, h3.new hb⟩
theorem PB.mono {w : World} {S S' : Nat → Prop} {g : Nat} {m : Option Nat} {b : B.Bk} (k : PB w S g m b) (hS : ∀ b, S b → S' b) : PB w S' g m b := by
  obtain ⟨h1, T, h2, h3⟩ := k
  exact ⟨h1, T, h2, h3.mono hS⟩
theorem PB.lt {w : World} {S : Nat → Prop} {g : Nat} {m : Option Nat} {b : B.Bk} (k : PB w S g m b) : g < w.heap.size := by
  obtain ⟨h1, T, h2, h3⟩ := k
  exact h3.lt
/-- Another book's changes. -/
theorem PB.kept {w w' : World} {S : Nat → Prop} {g g2 : Nat} {m m2 : Option Nat} {b b2 : B.Bk} {S2 : Nat → Prop} (k : PB w S g m b) (k2 : PB w S2 g2 m2 b2) (hK : Kpt w w' g m) (hg : g2 ≠ g) (hm : ∀ x, m = some x → m2 ≠ some x) : PB w' S2 g2 m2 b2 := by
  obtain ⟨_, T, _, h3⟩ := k
  obtain ⟨h1', T', h2', h3'⟩ := k2
  obtain ⟨A, c, hB, hR⟩ := h3.blk
  obtain ⟨f, hM, _⟩ := h3.map
  obtain ⟨A', c', hB', hR'⟩ := h3'.blk
  obtain ⟨f', hM', _⟩ := h3'.map
  refine ⟨h1', T', h2', h3'.keep fun b hl hb => hK.block b hl ?_ ?_⟩
  · rcases hb with rfl | hb | hb
    · exact hg
    · rintro rfl; exact hM'.blo hB hb
    · exact hb.2.blo hB (by decide)
  · rcases hb with rfl | hb | hb
    · exact hM.blo hB'
    · intro e; exact hm b e.symm hb.symm
    · exact hM.db hb.2

theorem new_cells : bcs (D.cU fun _ => false) none (D.cM fun _ => false).length 0 none 0 = bcs (fun _ => 0) none 0 0 none 0 := by
  obtain ⟨h1, h2⟩ := D.cl_none
  simp [h1, h2]
set_option maxRecDepth 100000 in
set_option maxHeartbeats 2000000 in
theorem bnew_any (w : World) : Calls Try.prog 11 #[] w fun e w' => e = .returned (.pointer (some ⟨w.heap.size, 0, none⟩)) ∧ PB w' (fun _ => False) w.heap.size none B.new ∧ Below w.heap.size w w' := by
  go_enter Try.func11, Try.ntmps11
  go_wp2
  go_ret
  refine ⟨rfl, ⟨B.ok_new, fun _ => false, fun _ _ => rfl, ⟨none, 0, ?_, ?_⟩, ⟨fun _ => none, ⟨fun _ => rfl, rfl⟩, Ties.nil, fun d e h => (by cases h)⟩, List.Pairwise.nil, fun x hx => (by cases hx)⟩, b_alloc _ _⟩
  · show Blo _ _ _ (bcs (D.cU fun _ => false) none (D.cM fun _ => false).length 0 none 0)
    rw [new_cells]
    exact Blo.made _ _ _
  · rw [D.cl_none.2]
    exact DRd.nil
theorem bclock_any {S : Nat → Prop} {g : Nat} {m : Option Nat} {b : B.Bk} (w : World) (hP : PB w S g m b) : Calls Try.prog 21 #[.pointer (some ⟨g, 0, none⟩)] w fun e w' => e = .returned (.int .i64 b.time) ∧ w' = w := by
  obtain ⟨hok, T, hT, hP⟩ := hP
  obtain ⟨A, c, hB, hR⟩ := hP.blk
  obtain ⟨b0, b1, b2, b3, b4, b5, b6, b7, b8, b9, b10⟩ := set11 hB
  clear b0 b1 b2 b3 b4 b5 b6 b7 b8 b9
  go_enter Try.func21, Try.ntmps21
  go_wp2
  go_ret
  exact ⟨rfl, rfl⟩

/-! a set stored into a book -/
theorem run_setb (w : World) (r : Nat) (U U' : Nat → Int) (A A' : Option Addr) (n c n' c' : Nat) (m : Option Nat) (t : Int) (hB : Blo w r 84 (bcs U A n c m t)) :
    ∃ W, (Instr.storeAt 53 (.pointer (some ⟨r, 0, none⟩)) (sv U' A' n' c')).run Try.prog w = .ok () W ∧ Blo W r 84 (bcs U' A' n' c' m t) ∧ w.grownBy W (some r) := by
  obtain ⟨i0, hi, h9⟩ : ∃ i, Try.prog.info? 53 = some i ∧ i.size = 9 := by
    have ht := Try.sizeSet
    cases e : Try.prog.info? 53 with
    | none => rw [e] at ht; cases ht
    | some i => rw [e] at ht; simp at ht; exact ⟨i, rfl, ht⟩
  have h1 := run_storeCells_at (P := Try.prog) r 0 84 (scs U' A' n' c').toList 0 (bcs U A n c m t) w hB (by simp) (scs_one U' A' n' c')
  have e : ((bcs U A n c m t).toList.take (0 + 0) ++ (scs U' A' n' c').toList ++ (bcs U A n c m t).toList.drop (0 + 0 + (scs U' A' n' c').toList.length)).toArray = bcs U' A' n' c' m t := by simp
  rw [e] at h1
  refine ⟨_, ?_, setRow_heap w r (bcs U A n c m t) _ 84 _ hB, ⟨rfl, rfl, rfl, by simp, fun k _ hk => setRow_other w r k _ (fun e => hk (by rw [e]))⟩⟩
  rw [← h1]
  simp [Instr.storeAt, Instr.sureAddr, storeVar, sizeOf, typeInfo, hi, h9, Value.cells]
theorem wpList_setb (w : World) {ops : Array Oper} {rest : List Oper} {o : Oper} {a : Act} {Q : Exit → Act → World → Prop} (hgd : o.guard = none) (x y : Operand) (ho : o.op = .store 53 x y)
    (r : Nat) (hx : a.eval x = .pointer (some ⟨r, 0, none⟩)) (U U' : Nat → Int) (A A' : Option Addr) (n c n' c' : Nat) (m : Option Nat) (t : Int) (hy : a.eval y = sv U' A' n' c') (hB : Blo w r 84 (bcs U A n c m t))
    (h : ∀ W, Blo W r 84 (bcs U' A' n' c' m t) → w.grownBy W (some r) → wpList Try.prog ops Q rest (a.put o.dst undef) W) : wpList Try.prog ops Q (o :: rest) a w := by
  refine wpList_plain hgd fun K hK => ?_
  obtain ⟨W, hrun, h2, h3⟩ := run_setb w r U U' A A' n c n' c' m t hB
  unfold Oper.wp execOp
  simp only [ho, hx, hy, Sem.run_bind, Sem.run_pure, Result.andThen_ok, hrun]
  exact hK _ _ (h W h2 h3)
def withV (B : Nat) (S : Nat → Prop) (T : D.Dot → Bool) (d : D.Dot) : StG :=
  ⟨fun u V => ∃ T' A' c', u = sv (D.cU T') A' (D.cM T').length c' ∧ (∀ x, D.may x = true → T' x = (T x || x == d)) ∧ DRd V (fun b => S b ∨ B ≤ b) A' (D.cM T'), fun _ _ _ h ⟨T', A', c', e, k, r⟩ => ⟨T', A', c', e, k, r.new h⟩⟩

set_option maxRecDepth 100000 in
set_option maxHeartbeats 4000000 in
theorem psee_any {S : Nat → Prop} {g : Nat} {m : Option Nat} {T : D.Dot → Bool} {h : List E.Ev} {t : Int} (a b : Int) (w : World) (hP : PBi w S g m T h t) :
    Calls Try.prog 40 #[.pointer (some ⟨g, 0, none⟩), .agg #[.int .i64 a, .int .i64 b]] w fun e w' =>
      e = .returned (.tuple #[]) ∧ (∃ T', (∀ x, D.may x = true → T' x = (T x || x == (a, b))) ∧ PBi w' (fun b => S b ∨ w.heap.size ≤ b) g m T' h t) ∧ w.grownBy w' (some g) := by
  obtain ⟨w1, hw1⟩ : ∃ W, w.alloc (.cells #[.int .i64 a, .int .i64 b] 39) = W := ⟨_, rfl⟩
  obtain ⟨gd, hgd⟩ : ∃ q, q = w.heap.size := ⟨_, rfl⟩
  have hb1 : Below w.heap.size w w1 := by rw [← hw1]; exact b_alloc _ _
  have hs1 := hb1.size
  have hD1 : Blo w1 gd 39 #[.int .i64 a, .int .i64 b] := by rw [← hw1, hgd]; exact Blo.made _ _ _
  have hP1 := hP.new hb1
  obtain ⟨A, c, hB, hR⟩ := hP1.blk
  have HP1 := Lib.hid hP1
  obtain ⟨n, hn⟩ : ∃ k, (D.cM T).length = k := ⟨_, rfl⟩
  rw [hn] at hB
  have HW := Lib.hid hw1
  have HGD := Lib.hid hgd
  have HB : Hid (∀ V, Grows w1 V → _) := Lib.hid (fun V hV => set11 (hB.new hV))
  have HD : Hid (∀ V, Grows w1 V → V.cell? ⟨gd, 0, none⟩ = some (.int .i64 a) ∧ V.cell? ⟨gd, 1, none⟩ = some (.int .i64 b)) := Lib.hid (fun V hV => ⟨by simpa using (hD1.new hV).cell 0, by simpa using (hD1.new hV).cell 1⟩)
  have HC : Hid (∀ V, Grows w1 V → Calls Try.prog 66 #[sv (D.cU T) A n c, .agg #[.int .i64 a, .int .i64 b]] V (WithP S T (a, b) V)) := Lib.hid (fun V hV => with_any S T A n c a b V hn (hR.new hV))
  obtain ⟨U, hU⟩ : ∃ U, D.cU T = U := ⟨_, rfl⟩
  rw [hU] at HB HC hB
  have hlt := hP.lt
  clear hw1 hgd hU hn hP hR
  go_enter Try.func40, Try.ntmps40
  go_wp2_with fail
  rw [HW.out, ← HGD.out]
  refine wp_fam (n := 9) (size := 13) (D := [4, 5, 6, 7, 8, 9, 10, 11, 12]) [(4, isV (.pointer (some ⟨g, 0, none⟩))), (5, isV (.pointer (some ⟨g, 0, none⟩))), (6, isV (.pointer (some ⟨g, 0, none⟩))), (7, isV (.pointer (some ⟨g, 0, none⟩))), (8, isV (sv U A n c)), (9, isV (.agg #[.int .i64 a, .int .i64 b])), (10, withV w.heap.size S T (a, b)), (11, isV (.pointer (some ⟨g, 0, none⟩))), (12, isV (.pointer (some ⟨g, 0, none⟩)))] (by kernel_rfl) (by rfl) (by kernel_rfl) ?_ ?_
  · simp only [List.take_succ_cons, List.take_zero, famAll]
    repeat' apply And.intro
    · intro f V hg hl
      simp [Oper.looksAt, Op.operands, Call.operands, famAt, famOf, isV] at hl
      simp [famWants, boolIs_bool, boolIs_undef, execOp, rho, go_sem, hl, famUpon, famOf, isV, Grows.refl]
    · intro f V hg hl
      simp [Oper.looksAt, Op.operands, Call.operands, famAt, famOf, isV] at hl
      simp [famWants, boolIs_bool, boolIs_undef, execOp, rho, go_sem, hl, famUpon, famOf, isV, Grows.refl]
    · intro f V hg hl
      simp [Oper.looksAt, Op.operands, Call.operands, famAt, famOf, isV] at hl
      simp [famWants, boolIs_bool, boolIs_undef, execOp, rho, go_sem, hl, famUpon, famOf, isV, Grows.refl]
    · intro f V hg hl
      simp [Oper.looksAt, Op.operands, Call.operands, famAt, famOf, isV] at hl
      simp [famWants, boolIs_bool, boolIs_undef, execOp, rho, go_sem, hl, famUpon, famOf, isV, Grows.refl]
    · intro f V hg hl
      obtain ⟨b0, b1, b2, b3, b4, b5, b6, b7, b8, b9, b10⟩ := HB.out V hg
      simp [Oper.looksAt, Op.operands, Call.operands, famAt, famOf, isV] at hl
      simp [famWants, boolIs_bool, boolIs_undef, execOp, rho, go_sem, hl, b0, b1, b2, b3, b4, b5, b6, b7, b8, b9, b10, famUpon, famOf, isV, Grows.refl]
    · intro f V hg hl
      obtain ⟨d0, d1⟩ := HD.out V hg
      simp [Oper.looksAt, Op.operands, Call.operands, famAt, famOf, isV] at hl
      simp [famWants, boolIs_bool, boolIs_undef, execOp, rho, go_sem, hl, d0, d1, famUpon, famOf, isV, Grows.refl]
    · intro f V hg hl
      simp [Oper.looksAt, Op.operands, Call.operands, famAt, famOf, isV] at hl
      simp [famWants, boolIs_bool, boolIs_undef, execOp, rho, go_sem, hl, famUpon, famOf, isV, Grows.refl]
      refine (HC.out V hg).mono ?_
      rintro e w'' ⟨T', A', c', rfl, hT', hR', hb'⟩
      exact ⟨_, rfl, hb', T', A', c', rfl, hT', hR'.mono fun x hx => hx.imp id fun hx => Nat.le_trans (Nat.le_trans hs1 (Below.size hg)) hx⟩
    · intro f V hg hl
      simp [Oper.looksAt, Op.operands, Call.operands, famAt, famOf, isV] at hl
      simp [famWants, boolIs_bool, boolIs_undef, execOp, rho, go_sem, hl, famUpon, famOf, isV, Grows.refl]
    · intro f V hg hl
      simp [Oper.looksAt, Op.operands, Call.operands, famAt, famOf, isV] at hl
      simp [famWants, boolIs_bool, boolIs_undef, execOp, rho, go_sem, hl, famUpon, famOf, isV, Grows.refl]
    · trivial
  · intro u V hg hu
    obtain ⟨T', A', c', e10, hT', hR'⟩ : ∃ T' A' c', u 10 = sv (D.cU T') A' (D.cM T').length c' ∧ (∀ x, D.may x = true → T' x = (T x || x == (a, b))) ∧ DRd V (fun b => S b ∨ w.heap.size ≤ b) A' (D.cM T') := hu 10 (by decide)
    have e12 : u 12 = .pointer (some ⟨g, 0, none⟩) := hu 12 (by decide)
    simp only [List.drop_succ_cons, List.drop_zero, fill, Act.put, List.setIfInBounds_toArray, List.set_cons_zero, List.set_cons_succ, e10, e12]
    have hPV := HP1.out.new hg
    have hbV := below_new hb1 hg
    have hBV := hB.new hg
    clear hu e10 e12 HB HD HC hD1 hB
    go_wp2_with (refine wpList_setb _ rfl _ _ rfl g rfl U (D.cU T') A A' n c (D.cM T').length c' m t rfl hBV ?_)
    intro w2 hB2 hg2
    go_wp2
    go_end0
    obtain ⟨f, h3, h4, h5⟩ := hPV.map
    have hk : ∀ x, DB V x → w2.heap[x]? = V.heap[x]? := fun x hx => hg2.block x hx.lt (fun e => hx.blo hBV (by decide) (by injection e))
    refine ⟨rfl, ⟨T', hT', ⟨⟨A', c', hB2, hR'.keep fun x _ hx => hk x hx⟩, ⟨f, h3.keep fun x hx hl => hg2.block x hl (fun e => ?_), h4, fun d e he => ((h5 d e he).keep fun x _ hx => hk x hx).mono fun x hx => .inl hx⟩, hPV.srt, hPV.rt⟩⟩, gb_trans (gb_below hbV _) hg2⟩
    injection e with e
    rw [e] at hx
    exact h3.blo hBV hx
end Go.Proofs.Ytedcgfcmhaeldaa
