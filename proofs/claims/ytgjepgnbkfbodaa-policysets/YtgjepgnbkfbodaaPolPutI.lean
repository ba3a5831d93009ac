/- The document's Works: what stands while 'out = append(append(next, e.Work), out[at:]...)' goes on, in any order. -/
import Derived.Test.YtgjepgnbkfbodaaEvMem
import Derived.Test.YtgjepgnbkfbodaaFamZ
namespace Go.Proofs.Ytgjepgnbkfbodaa
set_option linter.unusedVariables false
set_option linter.unusedSimpArgs false
open Go.ChangeShapes Go.WideShapes Go.ChangeAt Go.RowKit

theorem Try.rowIntK : (Try.prog.info? 3).map (fun i => (i.zero, i.size, i.bytes)) = some (some (.int .i64 0), 1, 8) := by kernel_rfl
theorem Try.sizeIntK : (Try.prog.info? 3).map (·.size) = some 1 := by kernel_rfl
theorem run_ito (A : Option Addr) (n c p : Nat) (h1 : p ≤ c) (W : World) :
    (Instr.slice 37 (.slice A n c) none (some (.int .i64 (p : Int))) none).run Try.prog W = .ok (.slice A p c) W := by
  have hel : Try.prog.elem 37 = 3 := by simp [Program.elem, Try.underlying37]
  have hz : (sizeOf 3).run Try.prog W = .ok 1 W := by
    cases hi : Try.prog.info? 3 with
    | none => have := Try.sizeIntK; rw [hi] at this; cases this
    | some i => have := Try.sizeIntK; rw [hi] at this; simp at this; simp [sizeOf, typeInfo, hi, this]
  rw [run_slice_h W 37 A n c (by rw [hel]; exact Try.underlying37) .i64 _ (by omega) (by omega), hel, hz]
  simp [sliced]
  intro _
  cases A <;> simp [Addr.add]
theorem run_ifrom (A : Option Addr) (n c p : Nat) (h1 : p ≤ n) (W : World) :
    (Instr.slice 37 (.slice A n c) (some (.int .i64 (p : Int))) none none).run Try.prog W = .ok (.slice (if c = p then A else A.map (·.add p)) (n - p) (c - p)) W :=
  run_from 37 3 Try.underlying37 Try.sizeIntK A n c p h1 W
theorem run_atI {x v : Value} {lo hi mx : Option Value} {W : World} (h : (Instr.slice 37 x lo hi mx).run Try.prog W = .ok v W) : (Instr.sliceAt 37 x lo hi mx).run Try.prog W = .ok v W := by
  unfold Instr.sliceAt
  rw [Sem.run_bind, run_underlying Try.underlying37]
  simpa using h
/-- append onto a row of ints of the call's own. -/
theorem run_iapp (w : World) (base : Nat) (v : Value) (n : Nat) (xs : List Int) (hown : w.ownsRow base 3 1 v n (i64s xs)) (S : Nat → Prop) (A : Option Addr) (m c : Nat) (news : List Int) (hm : news.length = m) (hr : Rds w S A (i64s news)) (h63 : n + m ≤ 1000000) (hbase : base ≤ w.heap.size) :
    ∃ v' w', (Builtin.append_ #[37, 37] 37 #[v, .slice A m c]).run Try.prog w = .ok v' w' ∧ w'.ownsRow base 3 1 v' (n + m) (i64s (xs ++ news)) ∧ w.grownBy w' v.ownBlock := by
  obtain ⟨i0, hi, hz0, hz1, hz2⟩ := info_parts Try.rowIntK
  obtain ⟨v', w', h1, h2, h3, _⟩ := run_app w base 37 37 3 i0 _ 8 Try.underlying37 hi hz0 hz1 hz2 rfl v n (i64s xs) hown S A m c (i64s news) (by simpa using hm) hr (one_ints _ _) (by unfold maxLen; omega) (by omega) hbase
  exact ⟨v', w', h1, by rw [i64s, List.map_append]; exact h2, h3⟩

def PutI (w : World) (B gx : Nat) (cs : Array Value) (x : Int) (v8 v3 : Value) (lo hi : List Int) : Say := fun L f W =>
  (Below B w W ∧ w.heap.size ≤ W.heap.size) ∧ Blo W gx 34 cs ∧
  (L 5 = false → f 3 = v3) ∧
  (L 3 = true → L 4 = false → ∃ b, f 53 = .slice (some ⟨b, 0, none⟩) 1 1 ∧ Rds W (fun _ => True) (some ⟨b, 0, none⟩) (i64s [x])) ∧
  (L 4 = false → W.ownsRow B 3 1 v8 lo.length (i64s lo)) ∧
  (L 4 = true → L 8 = false → ∃ A2 c2, f 54 = .slice A2 (lo.length + 1) c2 ∧ W.ownsRow B 3 1 (.slice A2 (lo.length + 1) c2) (lo.length + 1) (i64s (lo ++ [x]))) ∧
  (L 8 = true → ∃ A3 c3, f 58 = .slice A3 (lo.length + 1 + hi.length) c3 ∧ W.ownsRow B 3 1 (.slice A3 (lo.length + 1 + hi.length) c3) (lo.length + 1 + hi.length) (i64s (lo ++ [x] ++ hi)) ∧ (L 9 = true → f 3 = .slice A3 (lo.length + 1 + hi.length) c3))
section
variable {w : World} {B gx : Nat} {cs : Array Value} {x : Int} {v8 v3 : Value} {lo hi : List Int} {L : Nat → Bool} {f : Nat → Value} {W W' : World}
theorem own_newI {n : Nat} {v : Value} {xs : List Value} {t : TypeId} (h : W.ownsRow B t 1 v n xs) (hg : Below W.heap.size W W') : W'.ownsRow B t 1 v n xs := own_keep h (fun g _ hl => hg.block g hl)
theorem PutI.up (hB : B ≤ w.heap.size) : ∀ (L L' : Nat → Bool) (f f' : Nat → Value) (W W' : World), (∀ j ∈ [2, 3, 4, 5, 8, 9], L' j = L j) → (∀ s ∈ [53, 54, 58, 3], f' s = f s) → Grows W W' → PutI w B gx cs x v8 v3 lo hi L f W → PutI w B gx cs x v8 v3 lo hi L' f' W' := by
  intro L L' f f' W W' hL hf hg ⟨h1, h2, h3, h4, h5, h6, h7⟩
  unfold PutI
  rw [hL 3 (by decide), hL 4 (by decide), hL 5 (by decide), hL 8 (by decide), hL 9 (by decide), hf 53 (by decide), hf 54 (by decide), hf 58 (by decide), hf 3 (by decide)]
  refine ⟨⟨h1.1.trans (Below.mono hg (Nat.le_trans hB h1.2)), Nat.le_trans h1.2 (Below.size hg)⟩, h2.new hg, h3, fun a b => ?_, fun a => own_newI (h5 a) hg, fun a b => ?_, fun a => ?_⟩
  · obtain ⟨b, e1, e2⟩ := h4 a b
    exact ⟨b, e1, e2.new hg⟩
  · obtain ⟨A2, c2, e1, e2⟩ := h6 a b
    exact ⟨A2, c2, e1, own_newI e2 hg⟩
  · obtain ⟨A3, c3, e1, e2, e3⟩ := h7 a
    exact ⟨A3, c3, e1, own_newI e2 hg, e3⟩
theorem PutI.size (hB : B ≤ w.heap.size) (h : PutI w B gx cs x v8 v3 lo hi L f W) : B ≤ W.heap.size := Nat.le_trans hB h.1.2
/-- The row of one is made. -/
theorem PutI.lit (hB : B ≤ w.heap.size) (h : PutI w B gx cs x v8 v3 lo hi L f W) (h4 : L 4 = false) (h8 : L 8 = false) :
    PutI w B gx cs x v8 v3 lo hi (lst1 L 3) (updT f (some 53) (.slice (some ⟨W.heap.size, 0, none⟩) 1 1)) (W.alloc (.cells #[.int .i64 x] 3)) := by
  have hs := h.size hB
  obtain ⟨k1, k2, k3, k4, k5, k6, k7⟩ := h
  have hg : Below W.heap.size W (W.alloc (.cells #[.int .i64 x] 3)) := b_alloc _ _
  unfold PutI
  simp only [lst1, updT, Option.some.injEq, h4, h8, if_true, show ¬ (53 : Nat) = 3 by decide, show ¬ (4 : Nat) = 3 by decide, show ¬ (5 : Nat) = 3 by decide, show ¬ (8 : Nat) = 3 by decide, show ¬ (9 : Nat) = 3 by decide, if_false]
  exact ⟨⟨k1.1.trans (hg.mono hs), Nat.le_trans k1.2 hg.size⟩, k2.new hg, k3, fun _ _ => ⟨W.heap.size, rfl, one_rds W .i64 x 3⟩, fun _ => own_newI (k5 h4) hg, fun e => (by cases e), fun e => (by cases e)⟩
/-- The number is put behind those ahead of it. -/
theorem PutI.app (hB : B ≤ w.heap.size) (h : PutI w B gx cs x v8 v3 lo hi L f W) (h3 : L 3 = true) (h4 : L 4 = false) (h8 : L 8 = false) (hlen : lo.length + 1 ≤ 1000000) :
    ∃ b, f 53 = .slice (some ⟨b, 0, none⟩) 1 1 ∧ ∃ v W', (Builtin.append_ #[37, 37] 37 #[v8, .slice (some ⟨b, 0, none⟩) 1 1]).run Try.prog W = .ok v W' ∧ PutI w B gx cs x v8 v3 lo hi (lst1 L 4) (updT f (some 54) v) W' := by
  have hs := h.size hB
  obtain ⟨k1, k2, k3, k4, k5, k6, k7⟩ := h
  obtain ⟨b, e1, e2⟩ := k4 h3 h4
  have hO := k5 h4
  obtain ⟨v', W', hrun, hrow, hg⟩ := run_iapp W B v8 lo.length lo hO (fun _ => True) (some ⟨b, 0, none⟩) 1 1 [x] rfl e2 hlen hs
  obtain ⟨A2, c2, rfl, _⟩ := own_form hrow
  refine ⟨b, e1, _, W', hrun, ?_⟩
  unfold PutI
  simp only [lst1, updT, Option.some.injEq, h8, if_true, show ¬ (54 : Nat) = 3 by decide, show ¬ (3 : Nat) = 4 by decide, show ¬ (5 : Nat) = 4 by decide, show ¬ (8 : Nat) = 4 by decide, show ¬ (9 : Nat) = 4 by decide, if_false]
  exact ⟨⟨k1.1.grown hg hs (fun k hk => (World.ownsRow.lt hO k hk).1), Nat.le_trans k1.2 hg.size⟩, k2.grown hg (fun e => own_blo hO k2 (by decide) e.symm), k3, fun _ e => (by cases e), fun e => (by cases e), fun _ _ => ⟨A2, c2, rfl, hrow⟩, fun e => (by cases e)⟩
/-- Those behind it come behind it. -/
theorem PutI.app2 (hB : B ≤ w.heap.size) (h : PutI w B gx cs x v8 v3 lo hi L f W) (h4 : L 4 = true) (h8 : L 8 = false) (h9 : L 9 = false) {T : Nat → Prop} {Ah : Option Addr} {mh ch : Nat} (hm : hi.length = mh) (hr : Rds W T Ah (i64s hi)) (hlen : lo.length + 1 + hi.length ≤ 1000000) :
    ∃ A2 c2, f 54 = .slice A2 (lo.length + 1) c2 ∧ ∃ v W', (Builtin.append_ #[37, 37] 37 #[.slice A2 (lo.length + 1) c2, .slice Ah mh ch]).run Try.prog W = .ok v W' ∧ PutI w B gx cs x v8 v3 lo hi (lst1 L 8) (updT f (some 58) v) W' := by
  have hs := h.size hB
  obtain ⟨k1, k2, k3, k4, k5, k6, k7⟩ := h
  obtain ⟨A2, c2, e1, hO⟩ := k6 h4 h8
  obtain ⟨v', W', hrun, hrow, hg⟩ := run_iapp W B (.slice A2 (lo.length + 1) c2) (lo.length + 1) (lo ++ [x]) hO T Ah mh ch hi hm hr (by omega) hs
  obtain ⟨A3, c3, rfl, _⟩ := own_form hrow
  refine ⟨A2, c2, e1, _, W', hrun, ?_⟩
  subst hm
  unfold PutI
  simp only [lst1, updT, Option.some.injEq, h4, h9, if_true, show ¬ (58 : Nat) = 3 by decide, show ¬ (3 : Nat) = 8 by decide, show ¬ (4 : Nat) = 8 by decide, show ¬ (5 : Nat) = 8 by decide, show ¬ (9 : Nat) = 8 by decide, if_false]
  exact ⟨⟨k1.1.grown hg hs (fun k hk => (World.ownsRow.lt hO k hk).1), Nat.le_trans k1.2 hg.size⟩, k2.grown hg (fun e => own_blo hO k2 (by decide) e.symm), k3, fun _ e => (by cases e), fun e => (by cases e), fun _ e => (by cases e), fun _ => ⟨A3, c3, rfl, hrow, fun e => (by cases e)⟩⟩
/-- The row is told by its name. -/
theorem PutI.set (h : PutI w B gx cs x v8 v3 lo hi L f W) (h3 : L 3 = true) (h4 : L 4 = true) (h5 : L 5 = true) (h8 : L 8 = true) {v : Value} (hv : f 58 = v) : PutI w B gx cs x v8 v3 lo hi (lst1 L 9) (updT f (some 3) v) W := by
  obtain ⟨k1, k2, k3, k4, k5, k6, k7⟩ := h
  obtain ⟨A3, c3, e1, e2, e3⟩ := k7 h8
  unfold PutI
  simp only [lst1, updT, Option.some.injEq, h3, h4, h5, h8, if_true, show ¬ (3 : Nat) = 53 by decide, show ¬ (3 : Nat) = 54 by decide, show ¬ (3 : Nat) = 58 by decide, show ¬ (3 : Nat) = 9 by decide, show ¬ (4 : Nat) = 9 by decide, show ¬ (5 : Nat) = 9 by decide, show ¬ (8 : Nat) = 9 by decide, if_false]
  exact ⟨k1, k2, fun e => (by cases e), fun _ e => (by cases e), fun e => (by cases e), fun _ e => (by cases e), fun _ => ⟨A3, c3, e1, e2, fun _ => by rw [← hv]; exact e1⟩⟩
/-- The row as it was is read. -/
theorem PutI.mv {v : Value} (h : PutI w B gx cs x v8 v3 lo hi L f W) : PutI w B gx cs x v8 v3 lo hi (lst1 L 5) (updT f (some 55) v) W := by
  unfold PutI at *
  have e : ∀ j, j ≠ 5 → lst1 L 5 j = L j := fun j hj => by unfold lst1; rw [if_neg hj]
  have ef : ∀ s, 55 ≠ s → updT f (some 55) v s = f s := fun s hs => by unfold updT; rw [if_neg (fun e => hs (by injection e))]
  rw [e 3 (by decide), e 4 (by decide), e 8 (by decide), e 9 (by decide), ef 53 (by decide), ef 54 (by decide), ef 58 (by decide), ef 3 (by decide)]
  exact ⟨h.1, h.2.1, fun e => (by simp [lst1] at e), h.2.2.2⟩
/-- The workload is read. -/
theorem PutI.pass {v : Value} (h : PutI w B gx cs x v8 v3 lo hi L f W) : PutI w B gx cs x v8 v3 lo hi (lst1 L 2) (updT f (some 52) v) W := by
  unfold PutI at *
  have e : ∀ j, j ≠ 2 → lst1 L 2 j = L j := fun j hj => by unfold lst1; rw [if_neg hj]
  have ef : ∀ s, 52 ≠ s → updT f (some 52) v s = f s := fun s hs => by unfold updT; rw [if_neg (fun e => hs (by injection e))]
  rw [e 3 (by decide), e 4 (by decide), e 5 (by decide), e 8 (by decide), e 9 (by decide), ef 53 (by decide), ef 54 (by decide), ef 58 (by decide), ef 3 (by decide)]
  exact h
theorem PutI.fin (h : PutI w B gx cs x v8 v3 lo hi L f W) (h8 : L 8 = true) (h9 : L 9 = true) : Below B w W ∧ ∃ A3 c3, f 3 = .slice A3 (lo.length + 1 + hi.length) c3 ∧ W.ownsRow B 3 1 (.slice A3 (lo.length + 1 + hi.length) c3) (lo.length + 1 + hi.length) (i64s (lo ++ [x] ++ hi)) := by
  obtain ⟨A3, c3, e1, e2, e3⟩ := h.2.2.2.2.2.2 h8
  exact ⟨h.1.1, A3, c3, e3 h9, e2⟩
end
end Go.Proofs.Ytgjepgnbkfbodaa
