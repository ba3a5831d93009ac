/- The document's Order: what stands while 'out = append(append(next, node), out[at:]...)' goes on, in any order. -/
import Derived.Test.YtdgmbopdommnhaaMem
import Derived.Test.YtdgmbopdommnhaaIntCut
import Derived.Test.YtdgmbopdommnhaaFamZ
namespace Go.Proofs.Ytdgmbopdommnhaa
set_option linter.unusedVariables false
set_option linter.unusedSimpArgs false
open Go.ChangeShapes Go.WideShapes Go.ChangeAt Go.RowKit

/-- append onto a row of ints of the call's own. -/
theorem run_iapp (w : World) (base : Nat) (v : Value) (n : Nat) (xs : List Int) (hown : w.ownsRow base 3 1 v n (i64s xs)) (S : Nat → Prop) (A : Option Addr) (m c : Nat) (news : List Int) (hm : news.length = m) (hr : Rds w S A (i64s news)) (h63 : n + m ≤ 1000000) (hbase : base ≤ w.heap.size) :
    ∃ v' w', (Builtin.append_ #[22, 22] 22 #[v, .slice A m c]).run Try.prog w = .ok v' w' ∧ w'.ownsRow base 3 1 v' (n + m) (i64s (xs ++ news)) ∧ w.grownBy w' v.ownBlock := by
  obtain ⟨i0, hi, hz0, hz1, hz2⟩ := info_parts Try.rowIntK
  obtain ⟨v', w', h1, h2, h3, _⟩ := run_app w base 22 22 3 i0 _ 8 Try.underlying22 hi hz0 hz1 hz2 rfl v n (i64s xs) hown S A m c (i64s news) (by simpa using hm) hr (one_ints _ _) (by unfold maxLen; omega) (by omega) hbase
  exact ⟨v', w', h1, by rw [i64s, List.map_append]; exact h2, h3⟩

def PutN (w : World) (B : Nat) (x : Int) (v8 v3 : Value) (lo hi : List Int) : Say := fun L f W =>
  (Below B w W ∧ w.heap.size ≤ W.heap.size) ∧
  (L 4 = false → f 7 = v3) ∧
  (L 2 = true → L 3 = false → ∃ b, f 63 = .slice (some ⟨b, 0, none⟩) 1 1 ∧ Rds W (fun _ => True) (some ⟨b, 0, none⟩) (i64s [x])) ∧
  (L 3 = false → W.ownsRow B 3 1 v8 lo.length (i64s lo)) ∧
  (L 3 = true → L 7 = false → ∃ A2 c2, f 64 = .slice A2 (lo.length + 1) c2 ∧ W.ownsRow B 3 1 (.slice A2 (lo.length + 1) c2) (lo.length + 1) (i64s (lo ++ [x]))) ∧
  (L 7 = true → ∃ A3 c3, f 68 = .slice A3 (lo.length + 1 + hi.length) c3 ∧ W.ownsRow B 3 1 (.slice A3 (lo.length + 1 + hi.length) c3) (lo.length + 1 + hi.length) (i64s (lo ++ [x] ++ hi)) ∧ (L 8 = true → f 7 = .slice A3 (lo.length + 1 + hi.length) c3))
section
variable {w : World} {B : Nat} {x : Int} {v8 v3 : Value} {lo hi : List Int} {L : Nat → Bool} {f : Nat → Value} {W W' : World}
theorem own_newI {n : Nat} {v : Value} {xs : List Value} {t : TypeId} (h : W.ownsRow B t 1 v n xs) (hg : Below W.heap.size W W') : W'.ownsRow B t 1 v n xs := own_keep h (fun g _ hl => hg.block g hl)
theorem PutN.up (hB : B ≤ w.heap.size) : ∀ (L L' : Nat → Bool) (f f' : Nat → Value) (W W' : World), (∀ j ∈ [2, 3, 4, 7, 8], L' j = L j) → (∀ s ∈ [63, 64, 68, 7], f' s = f s) → Grows W W' → PutN w B x v8 v3 lo hi L f W → PutN w B x v8 v3 lo hi L' f' W' := by
  intro L L' f f' W W' hL hf hg ⟨h1, h3, h4, h5, h6, h7⟩
  unfold PutN
  rw [hL 2 (by decide), hL 3 (by decide), hL 4 (by decide), hL 7 (by decide), hL 8 (by decide), hf 63 (by decide), hf 64 (by decide), hf 68 (by decide), hf 7 (by decide)]
  refine ⟨⟨h1.1.trans (Below.mono hg (Nat.le_trans hB h1.2)), Nat.le_trans h1.2 (Below.size hg)⟩, h3, fun a b => ?_, fun a => own_newI (h5 a) hg, fun a b => ?_, fun a => ?_⟩
  · obtain ⟨b, e1, e2⟩ := h4 a b
    exact ⟨b, e1, e2.new hg⟩
  · obtain ⟨A2, c2, e1, e2⟩ := h6 a b
    exact ⟨A2, c2, e1, own_newI e2 hg⟩
  · obtain ⟨A3, c3, e1, e2, e3⟩ := h7 a
    exact ⟨A3, c3, e1, own_newI e2 hg, e3⟩
theorem PutN.size (hB : B ≤ w.heap.size) (h : PutN w B x v8 v3 lo hi L f W) : B ≤ W.heap.size := Nat.le_trans hB h.1.2
/-- The row of one is made. -/
theorem PutN.lit (hB : B ≤ w.heap.size) (h : PutN w B x v8 v3 lo hi L f W) (h4 : L 3 = false) (h8 : L 7 = false) :
    PutN w B x v8 v3 lo hi (lst1 L 2) (updT f (some 63) (.slice (some ⟨W.heap.size, 0, none⟩) 1 1)) (W.alloc (.cells #[.int .i64 x] 3)) := by
  have hs := h.size hB
  obtain ⟨k1, k3, k4, k5, k6, k7⟩ := h
  have hg : Below W.heap.size W (W.alloc (.cells #[.int .i64 x] 3)) := b_alloc _ _
  unfold PutN
  simp only [lst1, updT, Option.some.injEq, h4, h8, if_true, show ¬ (63 : Nat) = 7 by decide, show ¬ (3 : Nat) = 2 by decide, show ¬ (4 : Nat) = 2 by decide, show ¬ (7 : Nat) = 2 by decide, show ¬ (8 : Nat) = 2 by decide, if_false]
  exact ⟨⟨k1.1.trans (hg.mono hs), Nat.le_trans k1.2 hg.size⟩, k3, fun _ _ => ⟨W.heap.size, rfl, one_rds W .i64 x 3⟩, fun _ => own_newI (k5 h4) hg, fun e => (by cases e), fun e => (by cases e)⟩
/-- The number is put behind those ahead of it. -/
theorem PutN.app (hB : B ≤ w.heap.size) (h : PutN w B x v8 v3 lo hi L f W) (h3 : L 2 = true) (h4 : L 3 = false) (h8 : L 7 = false) (hlen : lo.length + 1 ≤ 1000000) :
    ∃ b, f 63 = .slice (some ⟨b, 0, none⟩) 1 1 ∧ ∃ v W', (Builtin.append_ #[22, 22] 22 #[v8, .slice (some ⟨b, 0, none⟩) 1 1]).run Try.prog W = .ok v W' ∧ PutN w B x v8 v3 lo hi (lst1 L 3) (updT f (some 64) v) W' := by
  have hs := h.size hB
  obtain ⟨k1, k3, k4, k5, k6, k7⟩ := h
  obtain ⟨b, e1, e2⟩ := k4 h3 h4
  have hO := k5 h4
  obtain ⟨v', W', hrun, hrow, hg⟩ := run_iapp W B v8 lo.length lo hO (fun _ => True) (some ⟨b, 0, none⟩) 1 1 [x] rfl e2 hlen hs
  obtain ⟨A2, c2, rfl, _⟩ := own_form hrow
  refine ⟨b, e1, _, W', hrun, ?_⟩
  unfold PutN
  simp only [lst1, updT, Option.some.injEq, h8, if_true, show ¬ (64 : Nat) = 7 by decide, show ¬ (2 : Nat) = 3 by decide, show ¬ (4 : Nat) = 3 by decide, show ¬ (7 : Nat) = 3 by decide, show ¬ (8 : Nat) = 3 by decide, if_false]
  exact ⟨⟨k1.1.grown hg hs (fun k hk => (World.ownsRow.lt hO k hk).1), Nat.le_trans k1.2 hg.size⟩, k3, fun _ e => (by cases e), fun e => (by cases e), fun _ _ => ⟨A2, c2, rfl, hrow⟩, fun e => (by cases e)⟩
/-- Those behind it come behind it. -/
theorem PutN.app2 (hB : B ≤ w.heap.size) (h : PutN w B x v8 v3 lo hi L f W) (h4 : L 3 = true) (h8 : L 7 = false) (h9 : L 8 = false) {T : Nat → Prop} {Ah : Option Addr} {mh ch : Nat} (hm : hi.length = mh) (hr : Rds W T Ah (i64s hi)) (hlen : lo.length + 1 + hi.length ≤ 1000000) :
    ∃ A2 c2, f 64 = .slice A2 (lo.length + 1) c2 ∧ ∃ v W', (Builtin.append_ #[22, 22] 22 #[.slice A2 (lo.length + 1) c2, .slice Ah mh ch]).run Try.prog W = .ok v W' ∧ PutN w B x v8 v3 lo hi (lst1 L 7) (updT f (some 68) v) W' := by
  have hs := h.size hB
  obtain ⟨k1, k3, k4, k5, k6, k7⟩ := h
  obtain ⟨A2, c2, e1, hO⟩ := k6 h4 h8
  obtain ⟨v', W', hrun, hrow, hg⟩ := run_iapp W B (.slice A2 (lo.length + 1) c2) (lo.length + 1) (lo ++ [x]) hO T Ah mh ch hi hm hr (by omega) hs
  obtain ⟨A3, c3, rfl, _⟩ := own_form hrow
  refine ⟨A2, c2, e1, _, W', hrun, ?_⟩
  subst hm
  unfold PutN
  simp only [lst1, updT, Option.some.injEq, h4, h9, if_true, show ¬ (68 : Nat) = 7 by decide, show ¬ (2 : Nat) = 7 by decide, show ¬ (3 : Nat) = 7 by decide, show ¬ (4 : Nat) = 7 by decide, show ¬ (8 : Nat) = 7 by decide, if_false]
  exact ⟨⟨k1.1.grown hg hs (fun k hk => (World.ownsRow.lt hO k hk).1), Nat.le_trans k1.2 hg.size⟩, k3, fun _ e => (by cases e), fun e => (by cases e), fun _ e => (by cases e), fun _ => ⟨A3, c3, rfl, hrow, fun e => (by cases e)⟩⟩
/-- The row is told by its name. -/
theorem PutN.set (h : PutN w B x v8 v3 lo hi L f W) (h3 : L 2 = true) (h4 : L 3 = true) (h5 : L 4 = true) (h8 : L 7 = true) {v : Value} (hv : f 68 = v) : PutN w B x v8 v3 lo hi (lst1 L 8) (updT f (some 7) v) W := by
  obtain ⟨k1, k3, k4, k5, k6, k7⟩ := h
  obtain ⟨A3, c3, e1, e2, e3⟩ := k7 h8
  unfold PutN
  simp only [lst1, updT, Option.some.injEq, h3, h4, h5, h8, if_true, show ¬ (7 : Nat) = 63 by decide, show ¬ (7 : Nat) = 64 by decide, show ¬ (7 : Nat) = 68 by decide, show ¬ (2 : Nat) = 8 by decide, show ¬ (3 : Nat) = 8 by decide, show ¬ (4 : Nat) = 8 by decide, show ¬ (7 : Nat) = 8 by decide, if_false]
  exact ⟨k1, fun e => (by cases e), fun _ e => (by cases e), fun e => (by cases e), fun _ e => (by cases e), fun _ => ⟨A3, c3, e1, e2, fun _ => by rw [← hv]; exact e1⟩⟩
/-- The row as it was is read. -/
theorem PutN.mv {v : Value} (h : PutN w B x v8 v3 lo hi L f W) : PutN w B x v8 v3 lo hi (lst1 L 4) (updT f (some 65) v) W := by
  unfold PutN at *
  have e : ∀ j, j ≠ 4 → lst1 L 4 j = L j := fun j hj => by unfold lst1; rw [if_neg hj]
  have ef : ∀ s, 65 ≠ s → updT f (some 65) v s = f s := fun s hs => by unfold updT; rw [if_neg (fun e => hs (by injection e))]
  rw [e 2 (by decide), e 3 (by decide), e 7 (by decide), e 8 (by decide), ef 63 (by decide), ef 64 (by decide), ef 68 (by decide), ef 7 (by decide)]
  exact ⟨h.1, fun e => (by simp [lst1] at e), h.2.2⟩
theorem PutN.fin (h : PutN w B x v8 v3 lo hi L f W) (h8 : L 7 = true) (h9 : L 8 = true) : Below B w W ∧ ∃ A3 c3, f 7 = .slice A3 (lo.length + 1 + hi.length) c3 ∧ W.ownsRow B 3 1 (.slice A3 (lo.length + 1 + hi.length) c3) (lo.length + 1 + hi.length) (i64s (lo ++ [x] ++ hi)) := by
  obtain ⟨A3, c3, e1, e2, e3⟩ := h.2.2.2.2.2 h8
  exact ⟨h.1.1, A3, c3, e3 h9, e2⟩
end
end Go.Proofs.Ytdgmbopdommnhaa
