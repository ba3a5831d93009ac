/- Rows of events: parts of them; append onto an empty literal. | Layer 8, the document's own: its book in memory; see. | Layer 8, the document's own: Last, Dots. | Layer 8, the document's own: what stands while Add puts an event in its place. -/
import Derived.Test.YtedcgfcmhaeldaaEvMem
import Derived.Test.YtedcgfcmhaeldaaBkMath3
import Derived.Test.YtedcgfcmhaeldaaFam
import Derived.Test.YtedcgfcmhaeldaaBkP1

section
namespace Go.Proofs.Ytedcgfcmhaeldaa
set_option linter.unusedVariables false
set_option linter.unusedSimpArgs false
open Go.ChangeShapes Go.WideShapes Go.ChangeAt Go.RowKit

theorem evs_take (l : List EvV) (k : Nat) : evs (l.take k) = (evs l).take (k * 14) := by
  induction l generalizing k with
  | nil => simp [evs]
  | cons e l ih =>
    cases k with
    | zero => simp [evs]
    | succ k =>
      have e1 : (k + 1) * 14 = 14 + k * 14 := by omega
      rw [List.take_succ_cons, e1]
      show e.cells.toList ++ evs (l.take k) = (e.cells.toList ++ evs l).take (14 + k * 14)
      have hlen : e.cells.toList.length = 14 := by simp
      rw [List.take_append, hlen, show 14 + k * 14 - 14 = k * 14 by omega, List.take_of_length_le (l := e.cells.toList) (by omega), ih]
theorem evs_drop (l : List EvV) (k : Nat) : evs (l.drop k) = (evs l).drop (k * 14) := by
  induction l generalizing k with
  | nil => simp [evs]
  | cons e l ih =>
    cases k with
    | zero => simp [evs]
    | succ k =>
      have e1 : (k + 1) * 14 = 14 + k * 14 := by omega
      rw [List.drop_succ_cons, e1]
      show evs (l.drop k) = (e.cells.toList ++ evs l).drop (14 + k * 14)
      have hlen : e.cells.toList.length = 14 := by simp
      have hnil : e.cells.toList.drop (14 + k * 14) = [] := List.drop_eq_nil_of_le (by omega)
      rw [List.drop_append, hlen, show 14 + k * 14 - 14 = k * 14 by omega, hnil, ih]
      rfl
theorem run_size14 (W : World) : (sizeOf 43).run Try.prog W = .ok 14 W := by
  have hs := Try.sizeEvent
  cases hi : Try.prog.info? 43 with
  | none => rw [hi] at hs; cases hs
  | some i => rw [hi] at hs; simp at hs; simp [sizeOf, typeInfo, hi, hs]
/-- s[p:] of whatever slice of events. -/
theorem run_efrom (A : Option Addr) (n c p : Nat) (h1 : p ≤ n) (W : World) :
    (Instr.slice 22 (.slice A n c) (some (.int .i64 (p : Int))) none none).run Try.prog W = .ok (.slice (if c = p then A else A.map (·.add (p * 14))) (n - p) (c - p)) W := by
  have hel : Try.prog.elem 22 = 43 := by simp [Program.elem, Try.underlying22]
  rw [run_slice_l W 22 A n c (by rw [hel]; exact Try.underlying22) .i64 _ (by omega) (by omega), hel, run_size14]
  simp [sliced]
/-- s[:p] -/
theorem run_eto (A : Option Addr) (n c p : Nat) (h1 : p ≤ c) (W : World) :
    (Instr.slice 22 (.slice A n c) none (some (.int .i64 (p : Int))) none).run Try.prog W = .ok (.slice A p c) W := by
  have hel : Try.prog.elem 22 = 43 := by simp [Program.elem, Try.underlying22]
  rw [run_slice_h W 22 A n c (by rw [hel]; exact Try.underlying22) .i64 _ (by omega) (by omega), hel, run_size14]
  simp [sliced]
  intro _
  cases A <;> simp [Addr.add]
theorem ERds.take {w : World} {S : Nat → Prop} {A : Option Addr} {l : List EvV} (h : ERds w S A l) (k : Nat) : ERds w S A (l.take k) :=
  ⟨by rw [evs_take]; exact h.1.take _, fun e he => h.2 e (List.mem_of_mem_take he)⟩
theorem ERds.from {w : World} {S : Nat → Prop} {A : Option Addr} {l : List EvV} {k c : Nat} (h : ERds w S A l) (hc : l.length ≤ c) : ERds w S (if c = k then A else A.map (·.add (k * 14))) (l.drop k) := by
  refine ⟨fun j u hu => ?_, fun e he => h.2 e (List.mem_of_mem_drop he)⟩
  rw [evs_drop] at hu
  have hl : k * 14 + j < (evs l).length := by
    rcases Nat.lt_or_ge (k * 14 + j) (evs l).length with h1 | h1
    · exact h1
    · rw [List.getElem?_drop, List.getElem?_eq_none h1] at hu; cases hu
  rw [evs_len] at hl
  rw [List.getElem?_drop] at hu
  obtain ⟨ad, rfl, hs, hce⟩ := h.1 _ u hu
  rw [if_neg (by omega)]
  exact ⟨ad.add (k * 14), rfl, by rw [Go.Proofs.Ytedcgfcmhaeldaa.M.addBlock]; exact hs, by rw [Go.Proofs.Ytedcgfcmhaeldaa.M.addAdd]; exact hce⟩
/-- append onto a row of the call's own, whatever comes behind it, none too. -/
theorem run_eapp' (w : World) (B : Nat) (ty : TypeId) (v : Value) (l : List EvV) (hown : ERow w B v l)
    (S : Nat → Prop) (A : Option Addr) (m c : Nat) (news : List EvV) (hm : news.length = m) (hr : Rds w S A (evs news)) (h63 : l.length + m ≤ 1000000) (hB : B ≤ w.heap.size) :
    ∃ v' w', (Builtin.append_ #[22, 22] ty #[v, .slice A m c]).run Try.prog w = .ok v' w' ∧ ERow w' B v' (l ++ news) ∧ w.grownBy w' v.ownBlock ∧ (v'.ownBlock = v.ownBlock ∨ v'.ownBlock = some w.heap.size) := by
  rcases A with _ | ad
  · obtain ⟨i0, hi, hz0, hz1, hz2⟩ := info_parts Try.rowEvent
    have hn : news = [] := by
      cases news with
      | nil => rfl
      | cons u us => obtain ⟨ad, e, _⟩ := hr 0 _ rfl; cases e
    subst hn
    simp only [List.length_nil] at hm
    subst hm
    refine ⟨v, w, ?_, by simpa using hown, World.grownBy.refl w _, .inl rfl⟩
    rcases hown.2 with ⟨rfl, _⟩ | ⟨g, cap, cur, rfl, _, _, hnc, _⟩
    · simp [Builtin.append_, run_underlying Try.underlying22, sizeOf, typeInfo, hi, Builtin.lenOf, Builtin.firstCells]
    · simp [Builtin.append_, run_underlying Try.underlying22, sizeOf, typeInfo, hi, Builtin.lenOf, Builtin.firstCells, hnc, storeCells]
  · exact run_eapp w B ty v l hown S ad m c news hm hr h63 hB
theorem wpList_eapp' (w : World) {ops : Array Oper} {rest : List Oper} {o : Oper} {a : Act} {Q : Exit → Act → World → Prop} (hgd : o.guard = none) (s x : Operand)
    (ho : o.op = .call { callee := .builtin .append, args := #[s, x], argTypes := #[22, 22] })
    (B : Nat) (v : Value) (l : List EvV) (hs : a.eval s = v) (hown : ERow w B v l)
    (S : Nat → Prop) (A : Option Addr) (m c : Nat) (news : List EvV) (hx : a.eval x = .slice A m c) (hm : news.length = m) (hr : Rds w S A (evs news)) (h63 : l.length + m ≤ 1000000) (hB : B ≤ w.heap.size)
    (h : ∀ v' w', ERow w' B v' (l ++ news) → w.grownBy w' v.ownBlock → (v'.ownBlock = v.ownBlock ∨ v'.ownBlock = some w.heap.size) → wpList Try.prog ops Q rest (a.put o.dst v') w') : wpList Try.prog ops Q (o :: rest) a w := by
  refine wpList_plain hgd fun K hK => ?_
  obtain ⟨v', w', hrun, h2, h3, h4⟩ := run_eapp' w B o.type v l hown S A m c news hm hr h63 hB
  unfold Oper.wp execOp
  simp only [ho, resolve, invoke, builtin, Sem.run_bind, Sem.run_pure, Result.andThen_ok, List.map_toArray, List.map_cons, List.map_nil, hs, hx, hrun]
  exact hK _ _ (h v' w' h2 h3 h4)
/-- An empty literal is a row of the call's own. -/
theorem ERow.lit0 (w : World) : ERow (w.alloc (.cells #[] 43)) w.heap.size (.slice (some ⟨w.heap.size, 0, none⟩) 0 0) [] :=
  World.ownsRow_lit (base := w.heap.size) (e := 43) (size := 14) w #[] 0 (Nat.le_refl _) (by unfold maxLen; omega) (by simp)
/-- More of them. -/
theorem EOwn.app {w w' : World} {S : Nat → Prop} {B : Nat} {v v' : Value} {l m : List EvV} (h : EOwn w S B v l) (h' : ERow w' B v' (l ++ m)) (hg : w.grownBy w' v.ownBlock) (hv : v'.ownBlock = v.ownBlock ∨ v'.ownBlock = some w.heap.size) (he : ∀ e ∈ m, Rds w (fun b => S b ∧ some b ≠ v.ownBlock) e.A (dvs e.M)) : EOwn w' S B v' (l ++ m) := by
  have key : ∀ x : EvV, Rds w (fun b => S b ∧ some b ≠ v.ownBlock) x.A (dvs x.M) → Rds w' (fun b => S b ∧ some b ≠ v'.ownBlock) x.A (dvs x.M) := fun x hx => by
    have h1 := (hx.old.grown hg (fun b hb _ => hb.1.2))
    refine h1.mono fun b hb => ⟨hb.1.1, fun e => ?_⟩
    rcases hv with hv | hv
    · exact hb.1.2 (e.trans hv)
    · rw [hv] at e; injection e with e; have := hb.2; omega
  refine ⟨h', fun x hx => ?_⟩
  rcases List.mem_append.1 hx with h1 | h1
  · exact key x (h.dots x h1)
  · exact key x (he x h1)
end Go.Proofs.Ytedcgfcmhaeldaa
end

section
namespace Go.Proofs.Ytedcgfcmhaeldaa
set_option linter.unusedVariables false
set_option linter.unusedSimpArgs false
open Go.ChangeShapes Go.WideShapes Go.ChangeAt Go.RowKit

/-- The cells of what was seen. -/
structure SawIs (cs : Array Value) (saw : D.Dot → Bool) : Prop where
  size : cs.size = 786
  cell : ∀ n k : Nat, n < 8 → k < 98 → cs[n * 98 + k]? = some (.bool (saw ((n : Int), (k : Int))))
def orD (saw : D.Dot → Bool) (d : D.Dot) : D.Dot → Bool := fun x => saw x || decide (x = d)
theorem SawIs.put {cs : Array Value} {saw : D.Dot → Bool} (h : SawIs cs saw) {n k : Nat} (hn : n < 8) (hk : k < 98) : SawIs (cs.setIfInBounds (n * 98 + k) (.bool true)) (orD saw ((n : Int), (k : Int))) := by
  have hs := h.size
  refine ⟨by simpa using hs, fun n' k' hn' hk' => ?_⟩
  rw [Array.getElem?_setIfInBounds]
  by_cases e : n * 98 + k = n' * 98 + k'
  · have e1 : n = n' := by omega
    have e2 : k = k' := by omega
    subst e1; subst e2
    rw [if_pos rfl, if_pos (by omega)]
    simp [orD]
  · rw [if_neg e, h.cell n' k' hn' hk']
    have : ¬ (((n' : Int), (k' : Int)) = ((n : Int), (k : Int))) := fun hh => by
      simp only [Prod.mk.injEq] at hh
      omega
    simp [orD, this]
theorem SawIs.far {cs : Array Value} {saw : D.Dot → Bool} (h : SawIs cs saw) {i : Nat} (hi : 784 ≤ i) (v : Value) : SawIs (cs.setIfInBounds i v) saw := by
  refine ⟨by simpa using h.size, fun n k hn hk => ?_⟩
  rw [Array.getElem?_setIfInBounds, if_neg (by omega)]
  exact h.cell n k hn hk
/-- The document's book at block g: what was seen, the events that hold, the time. All its rows were made behind it. -/
structure MBk (w : World) (g : Nat) (T : TypeId) (Z : Nat → Prop) (saw : D.Dot → Bool) (m : List EvV) (t : Int) (cs : Array Value) (A : Option Addr) (N c : Nat) : Prop where
  blo : Blo w g T cs
  saw : SawIs cs saw
  hold : cs[784]? = some (.slice A N c)
  time : cs[785]? = some (.int .i64 t)
  len : N = m.length
  own : EOwn w (fun b => g < b ∧ Z b) (g + 1) (.slice A N c) m
def MB (w : World) (g : Nat) (T : TypeId) (Z : Nat → Prop) (saw : D.Dot → Bool) (m : List EvV) (t : Int) : Prop := ∃ cs A N c, MBk w g T Z saw m t cs A N c
theorem MBk.new {w w' : World} {g : Nat} {T : TypeId} {Z : Nat → Prop} {saw : D.Dot → Bool} {m : List EvV} {t : Int} {cs : Array Value} {A : Option Addr} {N c : Nat} (h : MBk w g T Z saw m t cs A N c) (hb : Below w.heap.size w w') : MBk w' g T Z saw m t cs A N c := ⟨h.blo.new hb, h.saw, h.hold, h.time, h.len, h.own.new hb⟩
theorem MB.new {w w' : World} {g : Nat} {T : TypeId} {Z : Nat → Prop} {saw : D.Dot → Bool} {m : List EvV} {t : Int} (h : MB w g T Z saw m t) (hb : Below w.heap.size w w') : MB w' g T Z saw m t := by
  obtain ⟨cs, A, N, c, h⟩ := h
  exact ⟨cs, A, N, c, h.new hb⟩
theorem MB.mono {w : World} {g : Nat} {T : TypeId} {Z Z' : Nat → Prop} {saw : D.Dot → Bool} {m : List EvV} {t : Int} (h : MB w g T Z saw m t) (hZ : ∀ b, Z b → Z' b) : MB w g T Z' saw m t := by
  obtain ⟨cs, A, N, c, h⟩ := h
  exact ⟨cs, A, N, c, h.blo, h.saw, h.hold, h.time, h.len, h.own.mono (Nat.le_refl _) fun b hb => ⟨hb.1, hZ b hb.2⟩⟩
theorem MB.old {w : World} {g : Nat} {T : TypeId} {Z : Nat → Prop} {saw : D.Dot → Bool} {m : List EvV} {t : Int} (h : MB w g T Z saw m t) : MB w g T (fun b => Z b ∧ b < w.heap.size) saw m t := by
  obtain ⟨cs, A, N, c, h⟩ := h
  exact ⟨cs, A, N, c, h.blo, h.saw, h.hold, h.time, h.len, ⟨h.own.row, fun e he => (h.own.dots e he).old.mono fun b hb => ⟨⟨hb.1.1.1, hb.1.1.2, hb.2⟩, hb.1.2⟩⟩⟩
def notDot (a b : Int) (e : EvV) : Bool := !(e.F 0 == a && e.F 1 == b)
/-- How far it has come. -/
def SeeSt (g : Nat) (Z : Nat → Prop) (w0 : World) (m : List EvV) (a b : Int) (i : Nat) (v : Value) (w : World) : Prop :=
  ∃ A N c l, v = .slice A N c ∧ Hid (N = l.length ∧ l = (m.take i).filter (notDot a b)) ∧ l.length ≤ i ∧ EOwn w (fun b => (g < b ∧ Z b) ∧ b < w0.heap.size) w0.heap.size (.slice A N c) l ∧ Below w0.heap.size w0 w
theorem filter_snoc {m : List EvV} {i : Nat} (h : i < m.length) (p : EvV → Bool) : (m.take (i + 1)).filter p = (m.take i).filter p ++ if p m[i] then [m[i]] else [] := by
  rw [List.take_succ_eq_append_getElem h, List.filter_append, List.filter_cons]
  simp

set_option maxRecDepth 100000 in
set_option maxHeartbeats 4000000 in
theorem see_any {g : Nat} {T : TypeId} {Z : Nat → Prop} {saw : D.Dot → Bool} {m : List EvV} {t : Int} {n k : Nat} {w : World} (hM : MB w g T Z saw m t) (hn : n < 8) (hk : k < 98) (hl : m.length ≤ 900000) :
    Calls Try.prog 43 #[.pointer (some ⟨g, 0, none⟩), .agg #[.int .i64 (n : Int), .int .i64 (k : Int)]] w fun e w' =>
      e = .returned (.tuple #[]) ∧ MB w' g T Z (orD saw ((n : Int), (k : Int))) (m.filter (notDot n k)) t ∧ w.grownBy w' (some g) := by
  obtain ⟨cs, A, N, c, hM⟩ := hM
  obtain ⟨w1, hw1⟩ : ∃ W, w.alloc (.cells #[.int .i64 (n : Int), .int .i64 (k : Int)] 39) = W := ⟨_, rfl⟩
  obtain ⟨gd, hgd⟩ : ∃ q, q = w.heap.size := ⟨_, rfl⟩
  have hb1 : Below w.heap.size w w1 := by rw [← hw1]; exact b_alloc _ _
  have hD1 : Blo w1 gd 39 #[.int .i64 (n : Int), .int .i64 (k : Int)] := by rw [← hw1, hgd]; exact Blo.made _ _ _
  have hM1 := hM.new hb1
  have hgw := hM.blo.lt
  have hdg : gd ≠ g := by omega
  have HW := Lib.hid hw1
  have HGD := Lib.hid hgd
  have HD1 : Hid (∀ V, Grows w1 V → V.cell? ⟨gd, 0, none⟩ = some (.int .i64 (n : Int))) := Lib.hid (fun V hV => by simpa using (hD1.new hV).cell 0)
  have HD2 : Hid (∀ V, Grows w1 V → V.cell? ⟨gd, 1, none⟩ = some (.int .i64 (k : Int))) := Lib.hid (fun V hV => by simpa using (hD1.new hV).cell 1)
  have hn1 : (n : Int) < 8 := by omega
  have hk1 : (k : Int) < 98 := by omega
  clear hw1 hgd
  go_enter Try.func43, Try.ntmps43
  go_wp2_with fail
  rw [HW.out, ← HGD.out]
  refine wp_fam (n := 9) (size := 38) (D := [7, 8, 9, 10, 11, 12, 13, 14, 15]) [(7, isV (.pointer (some ⟨g, 0, none⟩))), (8, isV (.pointer (some ⟨gd, 0, none⟩))), (9, isV (.int .i64 (n : Int))), (10, isV (.pointer (some ⟨gd, 1, none⟩))), (11, isV (.int .i64 (k : Int))), (12, isV (.pointer (some ⟨g, 0, none⟩))), (13, isV (.pointer (some ⟨g, 0, none⟩))), (14, isV (.pointer (some ⟨g, n * 98, none⟩))), (15, isV (.pointer (some ⟨g, n * 98 + k, none⟩)))] (by kernel_rfl) (by rfl) (by kernel_rfl) ?_ ?_
  · simp only [List.take_succ_cons, List.take_zero, famAll]
    repeat' apply And.intro
    · intro f V hg hl
      simp [Oper.looksAt, Op.operands, Call.operands, famAt, famOf, isV] at hl
      simp [famWants, boolIs_bool, boolIs_undef, execOp, rho, go_sem, hl, famUpon, famOf, isV, Grows.refl]
    · intro f V hg hl
      simp [Oper.looksAt, Op.operands, Call.operands, famAt, famOf, isV] at hl
      simp [famWants, boolIs_bool, boolIs_undef, execOp, rho, go_sem, hl, famUpon, famOf, isV, Grows.refl]
    · intro f V hg hl
      have k1 := HD1.out V hg
      simp [Oper.looksAt, Op.operands, Call.operands, famAt, famOf, isV] at hl
      simp [famWants, boolIs_bool, boolIs_undef, execOp, rho, go_sem, hl, k1, famUpon, famOf, isV, Grows.refl]
    · intro f V hg hl
      simp [Oper.looksAt, Op.operands, Call.operands, famAt, famOf, isV] at hl
      simp [famWants, boolIs_bool, boolIs_undef, execOp, rho, go_sem, hl, famUpon, famOf, isV, Grows.refl]
    · intro f V hg hl
      have k2 := HD2.out V hg
      simp [Oper.looksAt, Op.operands, Call.operands, famAt, famOf, isV] at hl
      simp [famWants, boolIs_bool, boolIs_undef, execOp, rho, go_sem, hl, k2, famUpon, famOf, isV, Grows.refl]
    · intro f V hg hl
      simp [Oper.looksAt, Op.operands, Call.operands, famAt, famOf, isV] at hl
      simp [famWants, boolIs_bool, boolIs_undef, execOp, rho, go_sem, hl, famUpon, famOf, isV, Grows.refl]
    · intro f V hg hl
      simp [Oper.looksAt, Op.operands, Call.operands, famAt, famOf, isV] at hl
      simp [famWants, boolIs_bool, boolIs_undef, execOp, rho, go_sem, hl, famUpon, famOf, isV, Grows.refl]
    · intro f V hg hl
      simp [Oper.looksAt, Op.operands, Call.operands, famAt, famOf, isV] at hl
      simp [famWants, boolIs_bool, boolIs_undef, execOp, rho, go_sem, hl, hn1, hn, famUpon, famOf, isV, Grows.refl]
    · intro f V hg hl
      simp [Oper.looksAt, Op.operands, Call.operands, famAt, famOf, isV] at hl
      simp [famWants, boolIs_bool, boolIs_undef, execOp, rho, go_sem, hl, hk1, hk, famUpon, famOf, isV, Grows.refl]
    · trivial
  · intro u V hg hu
    have e15 : u 15 = .pointer (some ⟨g, n * 98 + k, none⟩) := hu 15 (by decide)
    simp only [List.drop_succ_cons, List.drop_zero, fill, Act.put, List.setIfInBounds_toArray, List.set_cons_zero, List.set_cons_succ, e15]
    have hMV := hM1.new hg
    have hDV := hD1.new hg
    have hi : n * 98 + k < 784 := by omega
    have cz : V.cell? ⟨g, n * 98 + k, none⟩ = some (.bool (saw ((n : Int), (k : Int)))) := (hMV.blo.cell _).trans (hMV.saw.cell n k hn hk)
    have fz := hMV.blo.frozen (n * 98 + k)
    obtain ⟨w2, hw2⟩ : ∃ W, V.setCell ⟨g, n * 98 + k, none⟩ (.bool true) = W := ⟨_, rfl⟩
    have hg2 : V.grownBy w2 (some g) := by rw [← hw2]; exact gb_set (World.grownBy.refl _ _) (.inl rfl) _
    have hB2 : Blo w2 g T (cs.setIfInBounds (n * 98 + k) (.bool true)) := by rw [← hw2]; exact hMV.blo.put _ _
    have hD2 := hDV.grown hg2 (fun e => by injection e with e; exact hdg e)
    have hO2 := hMV.own.keep (w' := w2) (fun b hb hl => hg2.block b hl (fun e => by injection e with e; rcases hb with hb | ⟨hb, _⟩ <;> omega))
    have hS2 := hMV.saw.put hn hk
    have hgb2 : w.grownBy w2 (some g) := gb_trans (gb_trans (gb_below hb1 _) (gb_below hg _)) hg2
    have h784 : (cs.setIfInBounds (n * 98 + k) (.bool true))[784]? = some (.slice A N c) := by rw [Array.getElem?_setIfInBounds, if_neg (by omega)]; exact hMV.hold
    have h785 : (cs.setIfInBounds (n * 98 + k) (.bool true))[785]? = some (.int .i64 t) := by rw [Array.getElem?_setIfInBounds, if_neg (by omega)]; exact hMV.time
    obtain ⟨cs2, hcs2⟩ : ∃ X, X = cs.setIfInBounds (n * 98 + k) (.bool true) := ⟨_, rfl⟩
    rw [← hcs2] at hB2 hS2 h784 h785
    have z784 : w2.cell? ⟨g, 784, none⟩ = some (.slice A N c) := (hB2.cell _).trans h784
    have HLEN := Lib.hid hM.len
    have HW2 := Lib.hid hw2
    have hg2' := hB2.lt
    clear hu e15 hcs2 hw2 hM hM1 hMV hDV hD1 hb1 hg hg2 HD1 HD2
    rw [← HW2.out] at z784
    go_wp2_with fail
    rw [HW2.out]
    rw [HW2.out] at z784
    clear cz fz
    go_loopw [4, 21] (fun ov iv wr => ∃ i : Nat, iv = .int .i64 i ∧ i ≤ N ∧ SeeSt g Z w2 m n k i ov wr) (fun _ iv _ => N - (intOf iv).toNat)
    case atStart => exact ⟨0, rfl, by omega, none, 0, 0, [], rfl, Lib.hid ⟨rfl, by simp⟩, by simp, EOwn.nil _ _ _, Below.refl _ _⟩
    case round =>
      obtain ⟨i, rfl, hi', Ao, No, co, l, rfl, HS, hli, hO, hb⟩ := hrel
      by_cases hlt : i < N
      · have hlt' : i < m.length := by rw [← HLEN.out]; exact hlt
        have hlN : N ≤ 900000 := by rw [HLEN.out]; exact hl
        have hmr : ERds wr (fun b => g < b ∧ b < w2.heap.size) A m := by
          have h1 : ERds w2 (fun b => g < b) A m := ⟨hO2.row.rds.mono fun b hb => by have := hb.1; omega, fun e he => (hO2.dots e he).mono fun b hb => hb.1.1⟩
          exact h1.old.new hb
        have hrz : Rds wr (fun b => (g < b ∧ Z b) ∧ b < w2.heap.size) m[i].A (dvs m[i].M) := ((hO2.dots _ (List.getElem_mem hlt')).mono fun b hb => hb.1).old.new hb
        obtain ⟨ad, rfl, _, hrx, c0, c1, c2, c3, c4, c5, c6, c7, c8, c9, c10, c11, c12, c13⟩ := hmr.cells hlt'
        obtain ⟨x, hx⟩ : ∃ x, x = m[i] := ⟨_, rfl⟩
        rw [← hx] at hrx hrz c0 c1 c2 c3 c4 c5 c6 c7 c8 c9 c10 c11 c12 c13
        have HFT : Hid (_ = _) := Lib.hid (filter_snoc hlt' (notDot n k))
        rw [← hx] at HFT
        have HXX := Lib.hid hx
        obtain ⟨F, M, Ax, cx⟩ := x
        simp only at hrx hrz c0 c1 c2 c3 c4 c5 c6 c7 c8 c9 c10 c11 c12 c13
        obtain ⟨q, hq⟩ : ∃ q, M.length = q := ⟨_, rfl⟩
        rw [hq] at c13
        have HQ := Lib.hid hq
        obtain ⟨w3, hw3⟩ : ∃ W, wr.alloc (.cells (ecs F Ax q cx) 43) = W := ⟨_, rfl⟩
        obtain ⟨g3, hg3⟩ : ∃ g, g = wr.heap.size := ⟨_, rfl⟩
        have hb3 : Below wr.heap.size wr w3 := by rw [← hw3]; exact b_alloc _ _
        have hX3 : Blo w3 g3 43 (ecs F Ax q cx) := by rw [← hw3, hg3]; exact Blo.made _ _ _
        have hD3 := (hD2.new hb).new hb3
        have hO3 := hO.new hb3
        have hb03 := below_new hb hb3
        have hs3 := hb03.size
        have HW3 := Lib.hid hw3
        have HG3 := Lib.hid hg3
        clear hx hq hw3 hg3 c0 c1 c2 c3 c4 c5 c6 c7 c8 c9 c10 c11 c12 c13
        obtain ⟨_, hA, _, _, c0, c1, c2, c3, c4, c5, c6, c7, c8, c9, c10, c11, c12, c13⟩ := hmr.cells hlt'
        injection hA with hA
        subst hA
        rw [← HXX.out] at c0 c1 c2 c3 c4 c5 c6 c7 c8 c9 c10 c11 c12 c13
        simp only at c0 c1 c2 c3 c4 c5 c6 c7 c8 c9 c10 c11 c12 c13
        rw [HQ.out] at c13
        have d0 : w3.cell? ⟨gd, 0, none⟩ = some (.int .i64 (n : Int)) := by simpa using hD3.cell 0
        have d1 : w3.cell? ⟨gd, 1, none⟩ = some (.int .i64 (k : Int)) := by simpa using hD3.cell 1
        have q2 := Try.guardDot
        have hszz : w3.heap.size = wr.heap.size + 1 := by rw [← HW3.out]; simp
        rw [← HW3.out] at d0 d1
        cases hnd : notDot n k ⟨F, M, Ax, cx⟩ with
        | false =>
          have q1 : ∀ W, (binOp .neq 39 (.agg #[.int .i64 (F 0), .int .i64 (F 1)]) (.agg #[.int .i64 (n : Int), .int .i64 (k : Int)])).run Try.prog W = .ok (.bool false) W := fun W => by
            rw [neq_dot]
            have : (!(F 0 == (n : Int) && F 1 == (k : Int))) = false := hnd
            rw [this]
          have HS3 : Hid (No = l.length ∧ l = (m.take (i + 1)).filter (notDot n k)) := Lib.hid ⟨HS.out.1, by rw [HFT.out, hnd, ← HS.out.2]; simp⟩
          have hO4 := hO3
          have hb04 := hb03
          rw [← HW3.out] at hO4 hb04
          clear hnd
          go_wp2
          go_roundw
          case rel => exact ⟨i + 1, by go_num, by omega, Ao, No, co, l, rfl, HS3, by omega, hO4, hb04⟩
          case measure => simp [intOf]; omega
        | true =>
          have q1 : ∀ W, (binOp .neq 39 (.agg #[.int .i64 (F 0), .int .i64 (F 1)]) (.agg #[.int .i64 (n : Int), .int .i64 (k : Int)])).run Try.prog W = .ok (.bool true) W := fun W => by
            rw [neq_dot]
            have : (!(F 0 == (n : Int) && F 1 == (k : Int))) = true := hnd
            rw [this]
          have HS3 : Hid (l ++ [(⟨F, M, Ax, cx⟩ : EvV)] = (m.take (i + 1)).filter (notDot n k)) := Lib.hid (by rw [HFT.out, hnd, ← HS.out.2]; simp)
          clear hnd
          have hap : Rds w3 (fun b => ((g < b ∧ Z b) ∧ b < w2.heap.size) ∧ some b ≠ (Value.slice Ao No co).ownBlock) Ax (dvs M) := (hrz.new hb3).mono fun b hb => ⟨hb, fun e => by have := (hO3.row.lt b e.symm).1; have := hb.2; omega⟩
          have hlit := blo_ers ⟨F, M, Ax, cx⟩ (Blo.made w3 43 (EvV.cells ⟨F, M, Ax, cx⟩))
          simp only [EvV.cells, HQ.out] at hlit
          have e1 := hO3.new (b_alloc w3 (.cells (ecs F Ax q cx) 43))
          rw [hszz] at hlit
          rw [← HW3.out] at e1 hlit
          go_wp2_with (at_builtin; refine wpList_eapp _ rfl _ _ rfl w2.heap.size _ l rfl e1.row (fun _ => True) _ 1 1 [⟨F, M, Ax, cx⟩] rfl rfl hlit (by omega) (by simp; omega) ?_)
          intro v5 w5 hrow5 hg5 hv5
          rw [HW3.out] at hg5 e1
          have hv6 : v5.ownBlock = (Value.slice Ao No co).ownBlock ∨ v5.ownBlock = some (w3.alloc (.cells (ecs F Ax q cx) 43)).heap.size := by simpa [hszz] using hv5
          have hO5 := e1.snoc hrow5 hg5 hv6 (hap.alloc _)
          have hb05 : Below w2.heap.size w2 w5 := by
            have h1 := below_new hb03 (b_alloc w3 (.cells (ecs F Ax q cx) 43))
            exact h1.grown hg5 h1.size (fun k hk => (hO3.row.lt k hk).1)
          obtain ⟨A5, c5', rfl, _⟩ := hrow5.form
          obtain ⟨N5, hN5⟩ : ∃ N, N = (l ++ [(⟨F, M, Ax, cx⟩ : EvV)]).length := ⟨_, rfl⟩
          rw [← hN5] at hO5 ⊢
          have HS5 : Hid (N5 = (l ++ [(⟨F, M, Ax, cx⟩ : EvV)]).length ∧ l ++ [(⟨F, M, Ax, cx⟩ : EvV)] = (m.take (i + 1)).filter (notDot n k)) := Lib.hid ⟨hN5, HS3.out⟩
          have hl5 : (l ++ [(⟨F, M, Ax, cx⟩ : EvV)]).length ≤ i + 1 := by simp; omega
          clear hN5 hrow5 hg5 hv5 hv6 hlit hap e1 hO3 hX3 d0 d1 c0 c1 c2 c3 c4 c5 c6 c7 c8 c9 c10 c11 c12 c13
          go_wp2
          go_roundw
          case rel => exact ⟨i + 1, by go_num, by omega, A5, N5, c5', _, rfl, HS5, hl5, hO5, hb05⟩
          case measure => simp [intOf]; omega
      · have HE : Hid (l = m.filter (notDot n k)) := Lib.hid (by
          have h1 := HS.out.2
          rwa [List.take_of_length_le (by rw [← HLEN.out]; omega)] at h1)
        have hBr := hB2.new hb
        have y784 : wr.cell? ⟨g, 784, none⟩ = some (.slice A N c) := (hBr.cell _).trans h784
        have f784 := hBr.frozen 784
        have hB3 := hBr.put 784 (.slice Ao No co)
        have hg3 : wr.grownBy (wr.setCell ⟨g, 784, none⟩ (.slice Ao No co)) (some g) := gb_set (World.grownBy.refl _ _) (.inl rfl) _
        have hO3 := hO.keep (w' := wr.setCell ⟨g, 784, none⟩ (.slice Ao No co)) (fun b hb hl => hg3.block b hl (fun e => by injection e with e; rcases hb with hb | ⟨⟨hb, _⟩, _⟩ <;> omega))
        have hgb3 := gb_trans (gb_trans hgb2 (gb_below hb _)) hg3
        go_wp2
        go_end0
        refine ⟨rfl, ⟨cs2.setIfInBounds 784 (.slice Ao No co), Ao, No, co, hB3, hS2.far (Nat.le_refl _) _, ?_, ?_, ?_, ?_⟩, hgb3⟩
        · have := hS2.size
          rw [Array.getElem?_setIfInBounds, if_pos rfl, if_pos (by omega)]
        · rw [Array.getElem?_setIfInBounds, if_neg (by omega)]; exact h785
        · rw [← HE.out]; exact HS.out.1
        · rw [← HE.out]; exact hO3.mono (by omega) (fun b hb => hb.1)
end Go.Proofs.Ytedcgfcmhaeldaa
end

section
namespace Go.Proofs.Ytedcgfcmhaeldaa
set_option linter.unusedVariables false
set_option linter.unusedSimpArgs false
open Go.ChangeShapes Go.WideShapes Go.ChangeAt Go.RowKit

def lastN (saw : D.Dot → Bool) (node : Int) : Int := if 0 ≤ node ∧ node < 8 then B.lastTo saw node 96 else 0
set_option maxRecDepth 100000 in
set_option maxHeartbeats 2000000 in
theorem rlast_any {g : Nat} {T : TypeId} {Z : Nat → Prop} {saw : D.Dot → Bool} {m : List EvV} {t : Int} {node : Int} {w : World} (hM : MB w g T Z saw m t) :
    Calls Try.prog 23 #[.pointer (some ⟨g, 0, none⟩), .int .i64 node] w fun e w' => e = .returned (.int .i64 (lastN saw node)) ∧ w = w' := by
  obtain ⟨cs, A, N, c, hM⟩ := hM
  by_cases h0 : 0 ≤ node
  · by_cases h8 : node < 8
    · have HL : Hid (lastN saw node = B.lastTo saw node 96) := Lib.hid (by unfold lastN; rw [if_pos ⟨h0, h8⟩])
      obtain ⟨n, rfl⟩ := Int.eq_ofNat_of_zero_le h0
      have hn : n < 8 := by omega
      go_enter Try.func23, Try.ntmps23
      go_wp2_with fail
      go_loop [5, 6] (fun nv sv => ∃ (k : Nat) (x : Int), sv = .int .i64 (k : Int) ∧ 1 ≤ k ∧ k ≤ 97 ∧ nv = .int .i64 x ∧ Hid (x = B.lastTo saw (n : Int) (k - 1))) (fun _ sv => 97 - (intOf sv).toNat)
      case atStart => exact ⟨1, 0, rfl, by omega, by omega, rfl, Lib.hid rfl⟩
      case round =>
        obtain ⟨k, x, rfl, hk1, hk2, rfl, HX⟩ := hrel
        by_cases hk : k ≤ 96
        · have hk' : (k : Int) ≤ 96 := by omega
          have hk8 : (k : Int) < 98 := by omega
          obtain ⟨b, hb⟩ : ∃ b, b = saw ((n : Int), (k : Int)) := ⟨_, rfl⟩
          have cz : w.cell? ⟨g, n * 98 + k, none⟩ = some (.bool b) := by rw [hb]; exact (hM.blo.cell _).trans (hM.saw.cell n k hn (by omega))
          have e1 : B.lastTo saw (n : Int) k = if b then (k : Int) else B.lastTo saw (n : Int) (k - 1) := by
            obtain ⟨j, rfl⟩ : ∃ j, k = j + 1 := ⟨k - 1, by omega⟩
            rw [hb, show j + 1 - 1 = j by omega, show ((j + 1 : Nat) : Int) = (j : Int) + 1 by omega]
            rfl
          have HE := Lib.hid e1
          clear hb e1
          cases b with
          | false =>
            go_wp2
            go_round
            case rel => exact ⟨k + 1, x, by go_num, by omega, by omega, rfl, Lib.hid (by show x = B.lastTo saw (n : Int) k; rw [HE.out, HX.out]; simp)⟩
            case measure => simp [intOf]; omega
          | true =>
            go_wp2
            go_round
            case rel => exact ⟨k + 1, (k : Int), by go_num, by omega, by omega, rfl, Lib.hid (by show (k : Int) = B.lastTo saw (n : Int) k; rw [HE.out]; simp)⟩
            case measure => simp [intOf]; omega
        · have hk96 : k = 97 := by omega
          have HF : Hid (lastN saw (n : Int) = x) := Lib.hid (by rw [HL.out, HX.out, hk96])
          go_wp2
          go_ret
          rw [HF.out]
          exact ⟨rfl, rfl⟩
    · have HL : Hid (lastN saw node = 0) := Lib.hid (by unfold lastN; rw [if_neg (fun h => h8 h.2)])
      go_enter Try.func23, Try.ntmps23
      go_wp2
      go_ret
      rw [HL.out]
      exact ⟨rfl, rfl⟩
  · have HL : Hid (lastN saw node = 0) := Lib.hid (by unfold lastN; rw [if_neg (fun h => h0 h.1)])
    go_enter Try.func23, Try.ntmps23
    go_wp2
    go_ret
    rw [HL.out]
    exact ⟨rfl, rfl⟩

set_option maxRecDepth 100000 in
set_option maxHeartbeats 4000000 in
theorem rdots_any {g : Nat} {T : TypeId} {Z : Nat → Prop} {saw : D.Dot → Bool} {m : List EvV} {t : Int} {w : World} (hM : MB w g T Z saw m t) :
    Calls Try.prog 48 #[.pointer (some ⟨g, 0, none⟩)] w (DotsPost (D.lst saw) w) := by
  obtain ⟨cs, A, N, c, hM⟩ := hM
  obtain ⟨k7, hk7⟩ : ∃ k, k = 768 := ⟨_, rfl⟩
  have HK := Lib.hid hk7
  unfold D.lst
  rw [← hk7]
  clear hk7
  go_enter Try.func48, Try.ntmps48
  go_wp2_with fail
  go_loopw [3, 4] (fun ov nv wr => ∃ k : Nat, nv = .int .i64 k ∧ k ≤ 8 ∧ DRow wr w.heap.size ov (D.pre saw (k * 96)) ∧ Below w.heap.size w wr) (fun _ nv _ => 8 - (intOf nv).toNat)
  case atStart => exact ⟨0, rfl, by omega, DRow.nil _ _, Below.refl _ _⟩
  case round =>
    obtain ⟨k, rfl, hk, hR, hb⟩ := hrel
    by_cases hk8 : k < 8
    · have hkd : decide ((k : Int) < 8) = true := by simp; omega
      have hk8' : (k : Int) < 8 := by omega
      go_wp2
      go_loopw [3, 5] (fun ov qv wr => ∃ i : Nat, qv = .int .i64 ((i : Int) + 1) ∧ i ≤ 96 ∧ DRow wr w.heap.size ov (D.pre saw (k * 96 + i)) ∧ Below w.heap.size w wr) (fun _ qv _ => 97 - (intOf qv).toNat)
      case atStart => exact ⟨0, rfl, by omega, hR, hb⟩
      case round =>
        obtain ⟨i, rfl, hi, hR, hb⟩ := hrel
        have hbs := hb.size
        by_cases hi96 : i < 96
        · have hi1 : (i : Int) + 1 ≤ 96 := by omega
          have hi2 : (i : Int) + 1 < 98 := by omega
          have hi3 : 0 ≤ (i : Int) + 1 := by omega
          have hi4 : ((i : Int) + 1).toNat = i + 1 := by omega
          have hMr := hM.new hb
          have cz : wr.cell? ⟨g, k * 98 + (i + 1), none⟩ = some (.bool (saw ((k : Int), (i : Int) + 1))) := by
            have := (hMr.blo.cell (k * 98 + (i + 1))).trans (hMr.saw.cell k (i + 1) hk8 (by omega))
            simpa using this
          cases hTv : saw ((k : Int), (i : Int) + 1) with
          | false =>
            rw [hTv] at cz
            have HE : Hid (D.pre saw (k * 96 + i + 1) = D.pre saw (k * 96 + i)) := Lib.hid (D.pre_no (by rw [D.dt_at k i hi96]; exact hTv))
            clear hTv
            go_wp2
            go_roundw
            case rel => exact ⟨i + 1, by go_num, by omega, by rw [← Nat.add_assoc, HE.out]; exact hR, hb⟩
            case measure => simp [intOf]; omega
          | true =>
            rw [hTv] at cz
            have HE : Hid (D.pre saw (k * 96 + i + 1) = D.pre saw (k * 96 + i) ++ [((k : Int), (i : Int) + 1)]) := Lib.hid (by rw [D.pre_yes (by rw [D.dt_at k i hi96]; exact hTv), D.dt_at k i hi96])
            have hlen := D.pre_len saw (k * 96 + i)
            clear hTv
            obtain ⟨Ao, co, rfl, hlc, _⟩ := hR.form
            obtain ⟨L, hL⟩ : ∃ L, L = D.pre saw (k * 96 + i) := ⟨_, rfl⟩
            rw [← hL] at hR hlen HE hlc ⊢
            obtain ⟨No, hNo⟩ : ∃ N, N = L.length := ⟨_, rfl⟩
            have hR' := hR
            rw [← hNo] at hR ⊢
            have HNo := Lib.hid hNo
            clear hL hNo
            go_wp2_with (at_builtin; refine wpList_dapp _ rfl _ _ rfl w.heap.size _ L rfl (hR.alloc _) (fun _ => True) _ 1 1 [((k : Int), (i : Int) + 1)] rfl rfl (dot_rds wr _ _ _) (by omega) (by simp; omega) ?_)
            intro v4 w4 hR4 hg4 _
            have hb04 : Below w.heap.size w w4 := by
              have h1 := below_new hb (b_alloc wr (.cells #[.int .i64 (k : Int), .int .i64 ((i : Int) + 1)] 39))
              exact h1.grown hg4 h1.size (fun q hq => (hR.lt q hq).1)
            go_wp2
            go_roundw
            case rel => exact ⟨i + 1, by go_num, by omega, by rw [← Nat.add_assoc, HE.out]; exact hR4, hb04⟩
            case measure => simp [intOf]; omega
        · have HE : Hid (D.pre saw (k * 96 + i) = D.pre saw ((k + 1) * 96)) := Lib.hid (by rw [show k * 96 + i = (k + 1) * 96 by omega])
          go_wp2
          go_roundw
          case rel => exact ⟨k + 1, by go_num, by omega, by rw [← HE.out]; exact hR, hb⟩
          case measure => simp [intOf]; omega
    · have e8 : k * 96 = k7 := by rw [HK.out]; omega
      rw [e8] at hR
      clear e8
      obtain ⟨A', c', e, _⟩ := hR.form
      generalize D.pre saw k7 = Mq at *
      subst e
      go_wp2
      go_ret
      exact ⟨A', c', rfl, hR, hb⟩
end Go.Proofs.Ytedcgfcmhaeldaa
end

section
namespace Go.Proofs.Ytedcgfcmhaeldaa
set_option linter.unusedVariables false
set_option linter.unusedSimpArgs false
open Go.ChangeShapes Go.WideShapes Go.ChangeAt Go.RowKit

def aS (g : Nat) (Z : Nat → Prop) (V : World) : Nat → Prop := fun b => g < b ∧ (Z b ∨ V.heap.size ≤ b)
/-- Whatever the order of the operations of 'b.Holds = append(append(next, Copy(e)), b.Holds[at:]...)'. -/
def AX (V : World) (g : Nat) (T : TypeId) (Z : Nat → Prop) (cs : Array Value) (F : Nat → Int) (n : Nat) (M : List D.Dot) (A8 : Option Addr) (k c8 : Nat) (l1 l2 : List EvV) (N : Nat) : Say := fun L f W =>
  Kpt V W g none ∧
  (L 3 = true → L 5 = false → ∃ A' c', f 72 = ev F A' n c' ∧ Copy W V.heap.size A' c' M) ∧
  (L 4 = true → L 5 = false → ∃ b A' c', f 73 = .slice (some ⟨b, 0, none⟩) 1 1 ∧ Blo W b 43 (ecs F A' n c') ∧ Copy W V.heap.size A' c' M) ∧
  (L 5 = false → EOwn W (aS g Z V) V.heap.size (.slice A8 k c8) l1) ∧
  (L 5 = true → L 12 = false → ∃ A2 c2 A' c', f 74 = .slice A2 (k + 1) c2 ∧ EOwn W (aS g Z V) V.heap.size (.slice A2 (k + 1) c2) (l1 ++ [⟨F, M, A', c'⟩])) ∧
  (L 12 = true → ∃ A3 c3 A' c', f 81 = .slice A3 N c3 ∧ EOwn W (aS g Z V) V.heap.size (.slice A3 N c3) (l1 ++ [⟨F, M, A', c'⟩] ++ l2) ∧ (L 15 = true → Blo W g T (cs.setIfInBounds 784 (.slice A3 N c3)))) ∧
  (L 15 = false → Blo W g T cs)
section
variable {V : World} {g : Nat} {T : TypeId} {Z : Nat → Prop} {cs : Array Value} {F : Nat → Int} {n : Nat} {M : List D.Dot} {A8 : Option Addr} {k c8 : Nat} {l1 l2 : List EvV} {N : Nat} {L : Nat → Bool} {f : Nat → Value} {W W' : World}
theorem AX.up : ∀ (L L' : Nat → Bool) (f f' : Nat → Value) (W W' : World), (∀ j ∈ [2, 3, 4, 5, 9, 12, 15], L' j = L j) → (∀ s ∈ [72, 73, 74, 81], f' s = f s) → Grows W W' → AX V g T Z cs F n M A8 k c8 l1 l2 N L f W → AX V g T Z cs F n M A8 k c8 l1 l2 N L' f' W' := by
  intro L L' f f' W W' hL hf hg ⟨k1, k2, k3, k4, k5, k6, k7⟩
  unfold AX
  rw [hL 3 (by decide), hL 4 (by decide), hL 5 (by decide), hL 12 (by decide), hL 15 (by decide), hf 72 (by decide), hf 73 (by decide), hf 74 (by decide), hf 81 (by decide)]
  refine ⟨k1.trans (Kpt.of (g := g) (m := none) hg) (.inl rfl), fun e e' => ?_, fun e e' => ?_, fun e => (k4 e).new hg, fun e e' => ?_, fun e => ?_, fun e => (k7 e).new hg⟩
  · obtain ⟨A', c', e1, e2⟩ := k2 e e'
    exact ⟨A', c', e1, e2.new hg⟩
  · obtain ⟨b, A', c', e1, e2, e3⟩ := k3 e e'
    exact ⟨b, A', c', e1, e2.new hg, e3.new hg⟩
  · obtain ⟨A2, c2, A', c', e1, e2⟩ := k5 e e'
    exact ⟨A2, c2, A', c', e1, e2.new hg⟩
  · obtain ⟨A3, c3, A', c', e1, e2, e3⟩ := k6 e
    exact ⟨A3, c3, A', c', e1, e2.new hg, fun e => (e3 e).new hg⟩
theorem AX.pass {i d : Nat} {v : Value} (hi : i ≠ 3 ∧ i ≠ 4 ∧ i ≠ 5 ∧ i ≠ 12 ∧ i ≠ 15) (hd : d ≠ 72 ∧ d ≠ 73 ∧ d ≠ 74 ∧ d ≠ 81) (h : AX V g T Z cs F n M A8 k c8 l1 l2 N L f W) : AX V g T Z cs F n M A8 k c8 l1 l2 N (lst1 L i) (updT f (some d) v) W := by
  unfold AX at *
  have e : ∀ j, j ≠ i → lst1 L i j = L j := fun j hj => by unfold lst1; rw [if_neg hj]
  have ef : ∀ s, d ≠ s → updT f (some d) v s = f s := fun s hs => by unfold updT; rw [if_neg (fun e => hs (by injection e))]
  rw [e 3 (Ne.symm hi.1), e 4 (Ne.symm hi.2.1), e 5 (Ne.symm hi.2.2.1), e 12 (Ne.symm hi.2.2.2.1), e 15 (Ne.symm hi.2.2.2.2), ef 72 hd.1, ef 73 hd.2.1, ef 74 hd.2.2.1, ef 81 hd.2.2.2]
  exact h
theorem AX.cal {A' : Option Addr} {c' : Nat} (h : AX V g T Z cs F n M A8 k c8 l1 l2 N L f W) (h4 : L 4 = false) (h5 : L 5 = false) (h12 : L 12 = false) (h15 : L 15 = false) (hc : Copy W' W.heap.size A' c' M) (hg : Below W.heap.size W W') :
    AX V g T Z cs F n M A8 k c8 l1 l2 N (lst1 L 3) (updT f (some 72) (ev F A' n c')) W' := by
  obtain ⟨k1, k2, k3, k4, k5, k6, k7⟩ := h
  unfold AX
  simp only [lst1, updT, h4, h5, h12, h15, if_true, show ¬ (4 : Nat) = 3 by decide, show ¬ (5 : Nat) = 3 by decide, show ¬ (12 : Nat) = 3 by decide, show ¬ (15 : Nat) = 3 by decide, if_false]
  exact ⟨k1.trans (Kpt.of (g := g) (m := none) hg) (.inl rfl), fun _ _ => ⟨A', c', rfl, hc.mono k1.size⟩, fun e => (by cases e), fun _ => (k4 h5).new hg, fun e => (by cases e), fun e => (by cases e), fun _ => (k7 h15).new hg⟩
theorem AX.lit {A' : Option Addr} {c' : Nat} (h : AX V g T Z cs F n M A8 k c8 l1 l2 N L f W) (h5 : L 5 = false) (h12 : L 12 = false) (h15 : L 15 = false) (hc : Copy W V.heap.size A' c' M) :
    AX V g T Z cs F n M A8 k c8 l1 l2 N (lst1 L 4) (updT f (some 73) (.slice (some ⟨W.heap.size, 0, none⟩) 1 1)) (W.alloc (.cells (ecs F A' n c') 43)) := by
  have hg : Grows W (W.alloc (.cells (ecs F A' n c') 43)) := Grows.alloc _ _
  obtain ⟨k1, k2, k3, k4, k5, k6, k7⟩ := h
  unfold AX
  simp only [lst1, updT, h5, h12, h15, if_true, show ¬ (3 : Nat) = 4 by decide, show ¬ (5 : Nat) = 4 by decide, show ¬ (12 : Nat) = 4 by decide, show ¬ (15 : Nat) = 4 by decide, if_false]
  refine ⟨k1.trans (Kpt.of (g := g) (m := none) hg) (.inl rfl), fun e e' => ?_, fun _ _ => ⟨_, A', c', rfl, Blo.made _ _ _, hc.new hg⟩, fun _ => (k4 h5).new hg, fun e => (by cases e), fun e => (by cases e), fun _ => (k7 h15).new hg⟩
  obtain ⟨A1, c1, e1, e2⟩ := k2 e h5
  exact ⟨A1, c1, by simpa using e1, e2.new hg⟩
/-- A row's growing leaves dots as they were. -/
theorem erow_db {w : World} {B b : Nat} {v : Value} {l : List EvV} (h : ERow w B v l) (hd : DB w b) : some b ≠ v.ownBlock := by
  intro e
  rcases h.2 with ⟨q, _⟩ | ⟨k, cap, cur, q, _, hh, _⟩
  · rw [q] at e; cases e
  · rw [q] at e
    have : b = k := by simpa [Value.ownBlock] using e
    subst this
    exact hd.blo hh (by decide) rfl
theorem AX.grow {v : Value} {l : List EvV} (hgV : g < V.heap.size) (hK : Kpt V W g none) (hO : ERow W V.heap.size v l) (hg : W.grownBy W' v.ownBlock) : Kpt V W' g none :=
  ⟨hg.os.trans hK.os, hg.tape.trans hK.tape, hg.output.trans hK.output, Nat.le_trans hK.size hg.size, fun i hi h1 h2 => by
    rw [hg.block i (Nat.lt_of_lt_of_le hi hK.size) (fun e => by have := (hO.lt i e.symm).1; omega), hK.block i hi h1 h2]⟩
theorem AX.app {A' A2 : Option Addr} {c' c2 : Nat} (hgV : g < V.heap.size) (h : AX V g T Z cs F n M A8 k c8 l1 l2 N L f W) (h5 : L 5 = false) (h12 : L 12 = false) (h15 : L 15 = false) (hc : Copy W V.heap.size A' c' M)
    (hR : ERow W' V.heap.size (.slice A2 (k + 1) c2) (l1 ++ [⟨F, M, A', c'⟩])) (hg : W.grownBy W' (Value.slice A8 k c8).ownBlock) (hv : (Value.slice A2 (k + 1) c2).ownBlock = (Value.slice A8 k c8).ownBlock ∨ (Value.slice A2 (k + 1) c2).ownBlock = some W.heap.size) :
    AX V g T Z cs F n M A8 k c8 l1 l2 N (lst1 L 5) (updT f (some 74) (.slice A2 (k + 1) c2)) W' := by
  obtain ⟨k1, k2, k3, k4, k5, k6, k7⟩ := h
  have hO := k4 h5
  unfold AX
  simp only [lst1, updT, h12, h15, if_true, show ¬ (3 : Nat) = 5 by decide, show ¬ (4 : Nat) = 5 by decide, show ¬ (12 : Nat) = 5 by decide, show ¬ (15 : Nat) = 5 by decide, if_false]
  have hrow : Rds W (fun b => aS g Z V b ∧ some b ≠ (Value.slice A8 k c8).ownBlock) A' (dvs M) := Rds.mono hc.drd fun x hx => ⟨⟨Nat.lt_of_lt_of_le hgV hx.1, .inr hx.1⟩, erow_db hO.row hx.2⟩
  refine ⟨AX.grow hgV k1 hO.row hg, fun _ e => (by cases e), fun _ e => (by cases e), fun e => (by cases e), fun _ _ => ⟨A2, c2, A', c', rfl, hO.snoc hR hg hv hrow⟩, fun e => (by cases e), fun _ => ?_⟩
  exact (k7 h15).grown hg (fun e => by have := (hO.row.lt g e.symm).1; omega)
theorem AX.app2 {A' A2 A3 : Option Addr} {c' c2 c3 : Nat} (hgV : g < V.heap.size) (h : AX V g T Z cs F n M A8 k c8 l1 l2 N L f W) (h5 : L 5 = true) (h12 : L 12 = false) (h15 : L 15 = false) (hO : EOwn W (aS g Z V) V.heap.size (.slice A2 (k + 1) c2) (l1 ++ [⟨F, M, A', c'⟩]))
    (hR : ERow W' V.heap.size (.slice A3 N c3) (l1 ++ [⟨F, M, A', c'⟩] ++ l2)) (hg : W.grownBy W' (Value.slice A2 (k + 1) c2).ownBlock) (hv : (Value.slice A3 N c3).ownBlock = (Value.slice A2 (k + 1) c2).ownBlock ∨ (Value.slice A3 N c3).ownBlock = some W.heap.size)
    (hd : ∀ e ∈ l2, Rds V (fun b => g < b ∧ Z b) e.A (dvs e.M)) :
    AX V g T Z cs F n M A8 k c8 l1 l2 N (lst1 L 12) (updT f (some 81) (.slice A3 N c3)) W' := by
  obtain ⟨k1, k2, k3, k4, k5, k6, k7⟩ := h
  unfold AX
  simp only [lst1, updT, h5, h15, if_true, show ¬ (3 : Nat) = 12 by decide, show ¬ (4 : Nat) = 12 by decide, show ¬ (5 : Nat) = 12 by decide, show ¬ (15 : Nat) = 12 by decide, if_false]
  have hrow : ∀ e ∈ l2, Rds W (fun b => aS g Z V b ∧ some b ≠ (Value.slice A2 (k + 1) c2).ownBlock) e.A (dvs e.M) := fun e he => by
    refine ((hd e he).old.keep fun b hb hl => k1.block b hl (by have := hb.1.1; omega) (by simp)).mono fun b hb => ⟨⟨hb.1.1, .inl hb.1.2⟩, fun e' => ?_⟩
    have := (hO.row.lt b e'.symm).1
    have := hb.2
    omega
  refine ⟨AX.grow hgV k1 hO.row hg, fun _ e => (by cases e), fun _ e => (by cases e), fun e => (by cases e), fun _ e => (by cases e), fun _ => ⟨A3, c3, A', c', rfl, hO.app hR hg hv hrow, fun e => (by cases e)⟩, fun _ => ?_⟩
  exact (k7 h15).grown hg (fun e => by have := (hO.row.lt g e.symm).1; omega)
theorem AX.sto (hgV : g < V.heap.size) (h : AX V g T Z cs F n M A8 k c8 l1 l2 N L f W) (h12 : L 12 = true) (h15 : L 15 = false) (h5 : L 5 = true) {o : Value} (ho : cs[784]? = some o) :
    ∃ A3 c3, f 81 = .slice A3 N c3 ∧ W.cell? ⟨g, 784, none⟩ = some o ∧ W.frozen? ⟨g, 784, none⟩ = false ∧ AX V g T Z cs F n M A8 k c8 l1 l2 N (lst1 L 15) (updT f none undef) (W.setCell ⟨g, 784, none⟩ (.slice A3 N c3)) := by
  obtain ⟨k1, k2, k3, k4, k5, k6, k7⟩ := h
  obtain ⟨A3, c3, A', c', e1, e2, _⟩ := k6 h12
  have hBp := k7 h15
  have hg : W.grownBy (W.setCell ⟨g, 784, none⟩ (.slice A3 N c3)) (some g) := gb_set (World.grownBy.refl _ _) (.inl rfl) _
  refine ⟨A3, c3, e1, (hBp.cell 784).trans ho, hBp.frozen 784, ?_⟩
  unfold AX
  simp only [lst1, updT, h12, h5, if_true, show ¬ (3 : Nat) = 15 by decide, show ¬ (4 : Nat) = 15 by decide, show ¬ (5 : Nat) = 15 by decide, show ¬ (12 : Nat) = 15 by decide, if_false]
  refine ⟨k1.trans (Kpt.ofG (g := g) (m := none) hg (.inl rfl)) (.inl rfl), fun _ e => (by cases e), fun _ e => (by cases e), fun e => (by cases e), fun _ e => (by cases e), fun _ => ⟨A3, c3, A', c', by simpa using e1, ?_, fun _ => by simpa using hBp.put 784 (.slice A3 N c3)⟩, fun e => (by cases e)⟩
  exact e2.keep fun b hb hl => hg.block b hl (fun e => by
    injection e with e
    subst e
    rcases hb with hb | hb
    · omega
    · exact absurd hb.1 (Nat.lt_irrefl _))
theorem AX.fin (h : AX V g T Z cs F n M A8 k c8 l1 l2 N L f W) (h12 : L 12 = true) (h15 : L 15 = true) : Kpt V W g none ∧ ∃ A3 c3 A' c', EOwn W (aS g Z V) V.heap.size (.slice A3 N c3) (l1 ++ [⟨F, M, A', c'⟩] ++ l2) ∧ Blo W g T (cs.setIfInBounds 784 (.slice A3 N c3)) := by
  obtain ⟨k1, k2, k3, k4, k5, k6, k7⟩ := h
  obtain ⟨A3, c3, A', c', e1, e2, e3⟩ := k6 h12
  exact ⟨k1, A3, c3, A', c', e2, e3 h15⟩
end
end Go.Proofs.Ytedcgfcmhaeldaa
end

