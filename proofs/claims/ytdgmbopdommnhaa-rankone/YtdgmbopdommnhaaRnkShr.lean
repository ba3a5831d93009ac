/- Layer 12, the document's own: Share. -/
import Derived.Test.YtdgmbopdommnhaaRnkRef2
import Derived.Test.YtdgmbopdommnhaaSetB
namespace Go.Proofs.Ytdgmbopdommnhaa
set_option linter.unusedVariables false
set_option linter.unusedSimpArgs false
open Go.ChangeShapes Go.WideShapes Go.ChangeAt Go.RowKit

/-- Eight rows; with one of them in the place of another. -/
abbrev sv8 (V : Nat → Value) : Array Value := #[V 0, V 1, V 2, V 3, V 4, V 5, V 6, V 7]
def upV (V : Nat → Value) (a : Nat) (v : Value) : Nat → Value := fun i => if i = a then v else V i
theorem sv8_at (V : Nat → Value) {a : Nat} (ha : a < 8) : (sv8 V)[a]? = some (V a) := by
  rcases (show a = 0 ∨ a = 1 ∨ a = 2 ∨ a = 3 ∨ a = 4 ∨ a = 5 ∨ a = 6 ∨ a = 7 by omega) with rfl | rfl | rfl | rfl | rfl | rfl | rfl | rfl <;> rfl
theorem sv8_put (V : Nat → Value) {a : Nat} (ha : a < 8) (v : Value) : (sv8 V).setIfInBounds a v = sv8 (upV V a v) := by
  rcases (show a = 0 ∨ a = 1 ∨ a = 2 ∨ a = 3 ∨ a = 4 ∨ a = 5 ∨ a = 6 ∨ a = 7 by omega) with rfl | rfl | rfl | rfl | rfl | rfl | rfl | rfl <;> rfl
/-- How sharing stands: the workloads up to j are shared out. -/
structure ShI (ns : List Int) (s j B g : Nat) (V : Nat → Value) (W : World) : Prop where
  blo : Blo W g 32 (sv8 V)
  row : ∀ i, i < 8 → ∃ A N c, V i = .slice A N c ∧ N = (R.shr ns s i j).length ∧ W.ownsRow B 3 1 (.slice A N c) N (i64s (zi (R.shr ns s i j)))
  apart : ∀ i k, i < 8 → k < 8 → i ≠ k → (V i).ownBlock = none ∨ (V i).ownBlock ≠ (V k).ownBlock
section
variable {ns : List Int} {s j B g : Nat} {V : Nat → Value} {W W' : World}
theorem ShI.new (h : ShI ns s j B g V W) (hb : Below W.heap.size W W') : ShI ns s j B g V W' :=
  ⟨h.blo.new hb, fun i hi => by obtain ⟨A, N, c, e, l, r⟩ := h.row i hi; exact ⟨A, N, c, e, l, own_newI r hb⟩, h.apart⟩
theorem ShI.none_ (h : ShI ns s j B g V W) (hd : (R.all ns (j : Int) s).head? = none) : ShI ns s (j + 1) B g V W :=
  ⟨h.blo, fun i hi => by rw [R.shr_no (by rw [hd]; simp)]; exact h.row i hi, h.apart⟩
/-- One row gets a workload more. -/
theorem ShI.more (h : ShI ns s j B g V W) {a : Nat} (ha : a < 8) (hd : (R.all ns (j : Int) s).head? = some a) {v' : Value} {W2 : World} {A : Option Addr} {N c : Nat} (hV : V a = .slice A N c)
    (hr : W2.ownsRow B 3 1 v' (N + 1) (i64s (zi (R.shr ns s a j) ++ [(j : Int)]))) (hg : W.grownBy W2 (V a).ownBlock) (hv : v'.ownBlock = (V a).ownBlock ∨ v'.ownBlock = some W.heap.size)
    (hgB : g < B) (h2 : W'.heap.size = W2.heap.size) (h3 : ∀ b, b ≠ g → W'.heap[b]? = W2.heap[b]?) (hblo : Blo W' g 32 ((sv8 V).setIfInBounds a v')) : ShI ns s (j + 1) B g (upV V a v') W' := by
  have hlt : ∀ i, i < 8 → ∀ b, (V i).ownBlock = some b → B ≤ b ∧ b < W.heap.size := fun i hi b hb => by
    obtain ⟨A, N, c, e, _, r⟩ := h.row i hi
    rw [e] at hb
    exact World.ownsRow.lt r b hb
  refine ⟨by rw [← sv8_put V ha]; exact hblo, fun i hi => ?_, fun i k hi hk hik => ?_⟩
  · by_cases hia : i = a
    · subst hia
      obtain ⟨A', N', c', e', l', _⟩ := h.row i hi
      rw [hV] at e'
      injection e' with _ e2 _
      obtain ⟨A3, c3, e3, _, _⟩ := own_form hr
      refine ⟨A3, N + 1, c3, by simp [upV, e3], ?_, ?_⟩
      · rw [R.shr_yes hd, List.length_append, ← l', ← e2]; rfl
      · rw [R.shr_yes hd]
        have e4 : zi (R.shr ns s i j ++ [j]) = zi (R.shr ns s i j) ++ [(j : Int)] := by simp [zi]
        rw [e4, ← e3]
        exact own_keep hr fun b hb _ => h3 b (by have := (World.ownsRow.lt hr b hb).1; omega)
    · obtain ⟨A', N', c', e', l', r'⟩ := h.row i hi
      refine ⟨A', N', c', by simp [upV, hia, e'], ?_, ?_⟩
      · rw [R.shr_no (by rw [hd]; intro e; injection e with e; exact hia e.symm)]; exact l'
      · rw [R.shr_no (by rw [hd]; intro e; injection e with e; exact hia e.symm)]
        refine own_keep r' fun b hb hbl => ?_
        have hB := (World.ownsRow.lt r' b hb).1
        rw [h3 b (by omega)]
        refine hg.block b hbl fun e => ?_
        rcases h.apart i a hi ha hia with h0 | h0
        · rw [e', hb] at h0; cases h0
        · rw [e', hb] at h0; exact h0 e
  · unfold upV
    by_cases hia : i = a
    · subst hia
      rw [if_pos rfl, if_neg (Ne.symm hik)]
      rcases hv with hv | hv
      · rw [hv]; exact h.apart i k hi hk hik
      · rw [hv]
        refine .inr fun e => ?_
        have := (hlt k hk _ e.symm).2
        omega
    · rw [if_neg hia]
      by_cases hka : k = a
      · subst hka
        rw [if_pos rfl]
        rcases hv with hv | hv
        · rw [hv]; exact h.apart i k hi hk hik
        · rw [hv]
          refine .inr fun e => ?_
          have := (hlt i hi _ e).2
          omega
      · rw [if_neg hka]; exact h.apart i k hi hk hik
end
/-- A call answers what each node owns. -/
def ShPost (ns : List Int) (s : Nat) (w : World) (e : Ending) (w' : World) : Prop :=
  ∃ V : Nat → Value, e = .returned (.agg (sv8 V)) ∧ (∀ i, i < 8 → ∃ A N c, V i = .slice A N c ∧ N = (R.shr ns s i 8).length ∧ Rds w' (fun b => w.heap.size ≤ b) A (i64s (zi (R.shr ns s i 8)))) ∧ Below w.heap.size w w'

theorem R.oer_some {ns : List Int} {k : Int} {s a : Nat} (h : (R.all ns k s).head? = some a) : R.own ns k s = (a : Int) ∧ R.oer ns k s = 0 := by
  cases hl : R.all ns k s with
  | nil => rw [hl] at h; cases h
  | cons b r =>
    rw [hl] at h
    injection h with h
    subst h
    exact R.own_cons hl
theorem R.oer_none {ns : List Int} {k : Int} {s : Nat} (h : (R.all ns k s).head? = none) : R.own ns k s = 0 ∧ R.oer ns k s = 8 := by
  cases hl : R.all ns k s with
  | nil => exact R.own_nil hl
  | cons b r => rw [hl] at h; cases h
theorem ShI.start (ns : List Int) (s B g : Nat) (W : World) (hb : Blo W g 32 (sv8 fun _ => .slice none 0 0)) : ShI ns s 0 B g (fun _ => .slice none 0 0) W :=
  ⟨hb, fun i hi => ⟨none, 0, 0, rfl, rfl, World.ownsRow_nil _ _ _ _⟩, fun i k _ _ _ => .inl rfl⟩

set_option maxRecDepth 100000 in
set_option maxHeartbeats 8000000 in
theorem rshare_any (S : Nat → Prop) (A : Option Addr) (n c : Nat) (ns : List Int) (s : Nat) (w : World) (hs : s < 18446744073709551616) (hn : ns.length = n) (hr : Rds w S A (i64s ns)) (hl : n ≤ 900000) :
    Calls Try.prog 14 #[.slice A n c, .int .u64 (s : Int)] w (ShPost ns s w) := by
  have HO := Lib.hid (fun (j : Nat) W (h : Below w.heap.size w W) => rowner_any S A n c ns (j : Int) s W hs hn (hr.new h) hl)
  clear hs hn hr
  obtain ⟨i0, hi0, hz0, hz1, hz2⟩ := info_parts Try.rowIntK
  have HI := Lib.hid hi0
  have HZ := Lib.hid (And.intro hz0 (And.intro hz1 hz2))
  clear hi0 hz0 hz1 hz2
  obtain ⟨w1, hw1⟩ : ∃ W, (w.alloc (.cells (sv8 fun _ => .slice none 0 0) 32)).alloc (.cells (sv8 fun _ => .slice none 0 0) 32) = W := ⟨_, rfl⟩
  have hb1 : Below w.heap.size w w1 := by rw [← hw1]; exact b_alloc2 _ _ _
  have hz1 : w1.heap.size = w.heap.size + 2 := by rw [← hw1]; simp
  have hR1 : Blo w1 w.heap.size 32 (sv8 fun _ => .slice none 0 0) := by rw [← hw1]; exact (Blo.made _ _ _).alloc _
  have hX1 : Blo w1 (w.heap.size + 1) 32 (sv8 fun _ => .slice none 0 0) := by
    rw [← hw1]
    have := Blo.made (w.alloc (.cells (sv8 fun _ => .slice none 0 0) 32)) 32 (sv8 fun _ => .slice none 0 0)
    simpa using this
  have HST := ShI.start ns s w1.heap.size (w.heap.size + 1) w1 hX1
  have HW1 := Lib.hid hw1
  have HZ1 := Lib.hid hz1
  clear hw1 hz1 hX1
  go_enter Try.func14, Try.ntmps14
  go_wp2_with fail
  rw [HW1.out]
  go_loopw [6] (fun jv wr => ∃ (j : Nat) (V : Nat → Value), jv = .int .i64 j ∧ j ≤ 8 ∧ ShI ns s j w1.heap.size (w.heap.size + 1) V wr ∧ Blo wr w.heap.size 32 (sv8 fun _ => .slice none 0 0) ∧ Below w.heap.size w wr ∧ w1.heap.size ≤ wr.heap.size) (fun jv _ => 8 - (intOf jv).toNat)
  case atStart => exact ⟨0, _, rfl, by omega, HST, hR1, hb1, Nat.le_refl _⟩
  case round =>
    clear HST hR1 hb1
    obtain ⟨j, V, rfl, hj, hI, hR, hb, hb1⟩ := hrel
    by_cases hlt : j < 8
    · have hj8 : (j : Int) < 8 := by omega
      have HOj := Lib.hid (HO.out j wr hb)
      cases hd : (R.all ns (j : Int) s).head? with
      | none =>
        rw [(R.oer_none hd).1, (R.oer_none hd).2] at HOj
        have HI2 : Hid (ShI ns s (j + 1) w1.heap.size (w.heap.size + 1) V wr) := Lib.hid (hI.none_ hd)
        clear hd hI
        go_wp2_with fail
        refine HOj.out.mono ?_
        rintro e w2 ⟨rfl, hb2⟩
        have hI2 := HI2.out.new hb2
        have hR2 := hR.new hb2
        have hb02 := below_new hb hb2
        have hb12 := Nat.le_trans hb1 hb2.size
        clear HOj hb hb1 hb2 hR HI2
        go_wp2
        go_roundw
        case rel => exact ⟨j + 1, V, by go_num, by omega, hI2, hR2, hb02, hb12⟩
        case measure => simp [intOf]; omega
      | some a =>
        have ha : a < 8 := R.own_lt hd
        rw [(R.oer_some hd).1, (R.oer_some hd).2] at HOj
        have HD := Lib.hid hd
        clear hd
        go_wp2_with fail
        refine HOj.out.mono ?_
        rintro e w2 ⟨rfl, hb2⟩
        have hI2 := hI.new hb2
        have hR2 := hR.new hb2
        have hb02 := below_new hb hb2
        have hb12 := Nat.le_trans hb1 hb2.size
        clear HOj hb hb1 hb2 hR hI
        obtain ⟨Aa, Na, ca, hVa, hNa, hrow⟩ := hI2.row a ha
        have hNl : Na ≤ 8 := by rw [hNa]; have := R.shr_len (ns := ns) (s := s) a j; omega
        have y0 : w2.cell? ⟨w.heap.size + 1, a, none⟩ = some (.slice Aa Na ca) := by rw [hI2.blo.cell a, sv8_at V ha, hVa]
        have HVA := Lib.hid hVa
        have HNA := Lib.hid hNa
        clear hVa hNa
        have ha0 : 0 ≤ (a : Int) ∧ (a : Int) < 8 := by omega
        have haN : ((a : Int)).toNat = a := Int.toNat_natCast a
        obtain ⟨w3, hw3⟩ : ∃ W, w2.alloc (.cells #[.int .i64 j] 3) = W := ⟨_, rfl⟩
        have hb3 : Below w2.heap.size w2 w3 := by rw [← hw3]; exact b_alloc _ _
        have hI3 := hI2.new hb3
        have hR3 := hR2.new hb3
        have hrow3 := own_newI hrow hb3
        have hlit : Rds w3 (fun _ => True) (some ⟨w2.heap.size, 0, none⟩) (i64s [(j : Int)]) := by rw [← hw3]; exact one_rds w2 .i64 (j : Int) 3
        have hb03 := below_new hb02 hb3
        have hb13 := Nat.le_trans hb12 hb3.size
        have hs13 := hb13
        have HW3 := Lib.hid hw3
        rw [← hw3] at hrow3 hlit hs13
        clear hw3 hI2 hR2 hrow hb02 hb12
        go_wp2_with (at_builtin; refine wpList_app _ rfl _ _ 22 rfl w1.heap.size 3 i0 _ 8 Try.underlying22 HI.out HZ.out.1 HZ.out.2.1 HZ.out.2.2 rfl (.slice Aa Na ca) Na _ rfl hrow3 (fun _ => True) _ 1 1 (i64s [(j : Int)]) rfl rfl hlit (one_ints _ _) (by unfold maxLen; omega) (by omega) hs13 ?_)
        intro v4 w4 hrow4 hg4 hv4
        rw [HW3.out] at hg4
        have hz3 : w3.heap.size = w2.heap.size + 1 := by rw [← HW3.out]; simp
        obtain ⟨A4, c4, rfl, _, _⟩ := own_form hrow4
        have hX4 := hI3.blo.grown hg4 (fun e => own_blo hrow3 (by rw [HW3.out]; exact hI3.blo) (by decide) e.symm)
        have hR4 := hR3.grown hg4 (fun e => own_blo hrow3 (by rw [HW3.out]; exact hR3) (by decide) e.symm)
        have y4 : w4.cell? ⟨w.heap.size + 1, a, none⟩ = some (.slice Aa Na ca) := by rw [hX4.cell a, sv8_at V ha, HVA.out]
        have f4 := hX4.frozen a
        have hX5 := hX4.put a (.slice A4 (Na + 1) c4)
        have hgx : w4.grownBy (w4.setCell ⟨w.heap.size + 1, a, none⟩ (.slice A4 (Na + 1) c4)) (some (w.heap.size + 1)) := gb_set (World.grownBy.refl _ _) (.inl rfl) _
        have hR5 := hR4.grown hgx (fun e => by injection e with e; omega)
        obtain ⟨w5, hw5⟩ : ∃ W, w4.setCell ⟨w.heap.size + 1, a, none⟩ (.slice A4 (Na + 1) c4) = W := ⟨_, rfl⟩
        have hz5 : w5.heap.size = w4.heap.size := by rw [← hw5]; simp
        have hother : ∀ b, b ≠ w.heap.size + 1 → w5.heap[b]? = w4.heap[b]? := fun b hb => by rw [← hw5]; exact Below.heap_setCell w4 _ _ b hb
        rw [hw5] at hX5 hR5 hgx
        have hI5 : ShI ns s (j + 1) w1.heap.size (w.heap.size + 1) (upV V a (.slice A4 (Na + 1) c4)) w5 :=
          hI3.more ha HD.out HVA.out (by simpa [i64s] using hrow4) (by rw [HVA.out]; exact hg4) (by rw [HVA.out, hz3]; simpa using hv4) (by rw [HZ1.out]; omega) hz5 hother hX5
        have hb04 : Below w.heap.size w w4 := hb03.grown hg4 hb03.size (fun k hk => by have h1 := (World.ownsRow.lt hrow3 k hk).1; rw [HZ1.out] at h1; omega)
        have hb14 : w1.heap.size ≤ w4.heap.size := Nat.le_trans hb13 hg4.size
        have hb05 := hb04.grown hgx hb04.size (fun k hk => by injection hk with hk; omega)
        have hb15 : w1.heap.size ≤ w5.heap.size := Nat.le_trans hb14 hgx.size
        clear hlit hrow4 hg4 hv4 hX4 hR4 hX5 hgx hb04 hb14 hother hrow3 hI3 hR3 hb03 hb13 hs13
        go_wp2
        go_roundw
        case rel => exact ⟨j + 1, _, by go_num, by omega, hI5, hR5, hb05, hb15⟩
        case measure => simp [intOf]; omega
    · obtain rfl : j = 8 := by omega
      have hj8 : ¬ ((8 : Nat) : Int) < 8 := by omega
      have e0 : wr.cell? ⟨w.heap.size + 1, 0, none⟩ = some (V 0) := by simpa using hI.blo.cell 0
      have e1 : wr.cell? ⟨w.heap.size + 1, 1, none⟩ = some (V 1) := by simpa using hI.blo.cell 1
      have e2 : wr.cell? ⟨w.heap.size + 1, 2, none⟩ = some (V 2) := by simpa using hI.blo.cell 2
      have e3 : wr.cell? ⟨w.heap.size + 1, 3, none⟩ = some (V 3) := by simpa using hI.blo.cell 3
      have e4 : wr.cell? ⟨w.heap.size + 1, 4, none⟩ = some (V 4) := by simpa using hI.blo.cell 4
      have e5 : wr.cell? ⟨w.heap.size + 1, 5, none⟩ = some (V 5) := by simpa using hI.blo.cell 5
      have e6 : wr.cell? ⟨w.heap.size + 1, 6, none⟩ = some (V 6) := by simpa using hI.blo.cell 6
      have e7 : wr.cell? ⟨w.heap.size + 1, 7, none⟩ = some (V 7) := by simpa using hI.blo.cell 7
      have hone : ∀ v ∈ (sv8 V).toList, v.oneCell' = true := fun v hv => by
        have h : ∀ i, i < 8 → (V i).oneCell' = true := fun i hi => by
          obtain ⟨A, N, c, e, _⟩ := hI.row i hi
          rw [e]; rfl
        simp at hv
        rcases hv with rfl | rfl | rfl | rfl | rfl | rfl | rfl | rfl
        · exact h 0 (by omega)
        · exact h 1 (by omega)
        · exact h 2 (by omega)
        · exact h 3 (by omega)
        · exact h 4 (by omega)
        · exact h 5 (by omega)
        · exact h 6 (by omega)
        · exact h 7 (by omega)
      go_wp2_with (refine wpList_setb _ rfl 32 _ _ rfl w.heap.size _ (sv8 V) rfl rfl hR (by kernel_rfl) rfl hone ?_)
      intro w2 hR2 hg2
      have hb2 := hb.grown hg2 hb.size (fun k hk => by injection hk with hk; omega)
      have hrows : ∀ i, i < 8 → ∃ A N c, V i = .slice A N c ∧ N = (R.shr ns s i 8).length ∧ Rds w2 (fun b => w.heap.size ≤ b) A (i64s (zi (R.shr ns s i 8))) := fun i hi => by
        obtain ⟨A, N, c, e, l, r⟩ := hI.row i hi
        exact ⟨A, N, c, e, l, ((own_rds r).grown hg2 (fun b hb _ h => by injection h with h; have h1 := hb.1; rw [HZ1.out] at h1; omega)).mono fun b hb => by have h1 := hb.1; rw [HZ1.out] at h1; omega⟩
      have HRW := Lib.hid hrows
      clear hrows e0 e1 e2 e3 e4 e5 e6 e7 hone hI hR
      have e0 : w2.cell? ⟨w.heap.size, 0, none⟩ = some (V 0) := by simpa using hR2.cell 0
      have e1 : w2.cell? ⟨w.heap.size, 1, none⟩ = some (V 1) := by simpa using hR2.cell 1
      have e2 : w2.cell? ⟨w.heap.size, 2, none⟩ = some (V 2) := by simpa using hR2.cell 2
      have e3 : w2.cell? ⟨w.heap.size, 3, none⟩ = some (V 3) := by simpa using hR2.cell 3
      have e4 : w2.cell? ⟨w.heap.size, 4, none⟩ = some (V 4) := by simpa using hR2.cell 4
      have e5 : w2.cell? ⟨w.heap.size, 5, none⟩ = some (V 5) := by simpa using hR2.cell 5
      have e6 : w2.cell? ⟨w.heap.size, 6, none⟩ = some (V 6) := by simpa using hR2.cell 6
      have e7 : w2.cell? ⟨w.heap.size, 7, none⟩ = some (V 7) := by simpa using hR2.cell 7
      go_wp2
      refine bodyPost_ret (v := .agg (sv8 V)) ?_ rfl ?_
      · simp [results, Try.results14, go_sem, e0, e1, e2, e3, e4, e5, e6, e7]
      · exact ⟨V, rfl, HRW.out, hb2⟩
end Go.Proofs.Ytdgmbopdommnhaa
