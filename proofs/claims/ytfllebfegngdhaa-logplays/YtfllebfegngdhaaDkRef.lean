/- Layer 13: the document's own: after, Read, Append, Swap, Crash, Sync, Do, New. -/
import Derived.Test.YtfllebfegngdhaaDkMem
import Derived.Lib.MinMax
namespace Go.Proofs.Ytfllebfegngdhaa
set_option linter.unusedVariables false
set_option linter.unusedSimpArgs false
open Go.ChangeShapes Go.WideShapes Go.ChangeAt Go.RowKit Go.Deep

/-- A slice that owns these bytes, in memory that is new. -/
def NewB (xs : List Int) (w : World) (e : Ending) (w' : World) : Prop :=
  ∃ A c, e = .returned (.slice A xs.length c) ∧ ByR w' (fun b => w.heap.size ≤ b) (.slice A xs.length c) xs ∧ Below w.heap.size w w'
theorem mdk_cells {w : World} {g : Nat} {t : TypeId} {a b c : Value} (h : Blo w g t #[a, b, c]) :
    w.cell? ⟨g, 0, none⟩ = some a ∧ w.cell? ⟨g, 1, none⟩ = some b ∧ w.cell? ⟨g, 2, none⟩ = some c ∧ w.frozen? ⟨g, 0, none⟩ = false ∧ w.frozen? ⟨g, 1, none⟩ = false ∧ w.frozen? ⟨g, 2, none⟩ = false :=
  ⟨by simpa using h.cell 0, by simpa using h.cell 1, by simpa using h.cell 2, h.frozen 0, h.frozen 1, h.frozen 2⟩

set_option maxRecDepth 100000 in
set_option maxHeartbeats 4000000 in
theorem rafter_any {w : World} {fp : Nat → Prop} {g : Nat} {Z : Int} {lv : Value} {L : List Int} {wv : Value} {l : List Dk.W} (hM : MDk w fp g Z lv L wv l) (n : Nat) (hn : n ≤ l.length) (hl : l.length ≤ 1000000000)
    (hb : ∀ k, (Dk.aft L ((l.map Dk.W.u).take k)).length ≤ 16384) :
    Calls Try.prog 47 #[.pointer (some ⟨g, 0, none⟩), .int .i64 (n : Int)] w (NewB (Dk.aft L ((l.map Dk.W.u).take n)) w) := by
  obtain ⟨i0, hi, hz0, hz1, hz2⟩ := info_parts Try.rowU8
  have hb0 : L.length ≤ 16384 := by simpa [Dk.aft] using hb 0
  obtain ⟨Al, cl, elv, hcl, hLr⟩ := hM.lasts.form
  obtain ⟨Aw, cw, ewv, hcw, hWr⟩ := hM.row.form
  obtain ⟨w1, hw1⟩ : ∃ W, w.alloc (.cells #[] 5) = W := ⟨_, rfl⟩
  have hb1 : Below w.heap.size w w1 := by rw [← hw1]; exact b_alloc _ _
  have hz1' : w1.heap.size = w.heap.size + 1 := by rw [← hw1]; simp
  have hown1 : w1.ownsRow w.heap.size 5 1 (.slice (some ⟨w.heap.size, 0, none⟩) 0 0) 0 [] := by rw [← hw1]; exact World.ownsRow_lit w #[] 0 (Nat.le_refl _) (by unfold maxLen; omega) rfl
  have hM1 := hM.keep (w' := w1) fun b _ hl => hb1.block b hl
  obtain ⟨k0, k1, k2, _⟩ := mdk_cells hM1.blo
  have hLr1 := hLr.new hb1
  rw [elv] at k1
  rw [ewv] at k2
  obtain ⟨R, hR⟩ : ∃ R : Nat → List Int, R = fun k => Dk.aft L ((l.map Dk.W.u).take k) := ⟨_, rfl⟩
  have hR0 : R 0 = L := by rw [hR]; simp [Dk.aft]
  have hRs : ∀ k (h : k < l.length), R (k + 1) = Dk.app (R k) l[k].u := fun k h => by
    rw [hR]
    simp only
    rw [Dk.aft_snoc _ _ (by simpa using h)]
    simp
  have hRb : ∀ k, (R k).length ≤ 16384 := fun k => by rw [hR]; exact hb k
  have hRn : Dk.aft L ((l.map Dk.W.u).take n) = R n := by rw [hR]
  rw [hRn]
  clear hRn hR hb
  have HR0 := Lib.hid hR0
  have HRs := Lib.hid hRs
  have hsl := run_wto Aw l.length cw n (by omega) 
  clear hR0 hRs
  go_enter Try.func47, Try.ntmps47
  go_wp2_with (at_builtin; refine wpList_app _ rfl _ _ 32 rfl w.heap.size 5 i0 (.int .u8 0) 1 Try.underlying32 hi hz0 hz1 hz2 rfl _ _ _ rfl hown1 _ Al L.length cl (u8s L) rfl (by simp) hLr1 (one_ints _ _) (by unfold maxLen; omega) (by omega) (by omega) ?_)
  intro v2 w2 hown2 hg2 hv2
  have hb2 : Below w.heap.size w w2 := hb1.grown hg2 (by omega) fun k hk => by simp [Value.ownBlock] at hk; omega
  have hM2 := hM.keep (w' := w2) fun b _ hl => hb2.block b hl
  obtain ⟨A2, c2, rfl, hc2, _⟩ := own_form hown2
  obtain ⟨k0, k1, k2, _⟩ := mdk_cells hM2.blo
  rw [ewv] at k2
  simp only [List.nil_append, Nat.zero_add, u8s, List.length_map] at hown2
  have hown2' : w2.ownsRow w.heap.size 5 1 (.slice A2 (R 0).length c2) (R 0).length (u8s (R 0)) := by rw [HR0.out]; exact hown2
  have e0 : L.length = (R 0).length := by rw [HR0.out]
  have hws : Rds w (fun b => fp b) Aw (Dk.wcs l) := hWr.mono fun b hb => hM.rowi b (by rw [ewv] at hb ⊢; exact hb.2)
  clear hown2 hg2 hv2 hown1 hLr1 hM1 hw1 hc2 hM2 hb1 hz1'
  go_wp2_with fail
  rw [e0]
  clear k0 k1 k2 hsl hcl hLr elv e0 hb0
  go_loopw [5, 21] (fun ov iv wr => ∃ (i : Nat) (A : Option Addr) (c : Nat), iv = .int .i64 i ∧ i ≤ n ∧ ov = .slice A (R i).length c ∧ wr.ownsRow w.heap.size 5 1 (.slice A (R i).length c) (R i).length (u8s (R i)) ∧ Below w.heap.size w wr) (fun _ iv _ => n - (intOf iv).toNat)
  case atStart => exact ⟨0, A2, c2, rfl, Nat.zero_le _, rfl, hown2', hb2⟩
  case round =>
    obtain ⟨i, A, c, rfl, hi', rfl, ho, hb⟩ := hrel
    clear hown2' hb2
    have hbs := hb.size
    by_cases hlt : i < n
    · have hil : i < l.length := by omega
      obtain ⟨ad, rfl, _, c0, c1, c2'⟩ := (hws.new hb).dkw hil
      have hR1 := HRs.out i hil
      have hlb := hRb (i + 1)
      have hX := ((hM.swaps l[i] (List.getElem_mem hil)).keep (w' := wr) fun b _ hl => hb.block b hl)
      obtain ⟨⟨x, sw, xv, xs⟩, hx⟩ : ∃ x, x = l[i] := ⟨_, rfl⟩
      rw [← hx] at c0 c1 c2' hR1 hX
      clear hx
      simp only at c0 c1 c2' hX
      obtain ⟨Ax, cx, rfl, hcx, hXr⟩ := hX.form
      obtain ⟨w3, hw3⟩ : ∃ W, wr.alloc (.cells #[.int .u8 x, .bool sw, .slice Ax xs.length cx] 79) = W := ⟨_, rfl⟩
      have hb3 : Below wr.heap.size wr w3 := by rw [← hw3]; exact b_alloc _ _
      have hB3 : Blo w3 wr.heap.size 79 #[.int .u8 x, .bool sw, .slice Ax xs.length cx] := by rw [← hw3]; exact Blo.made _ _ _
      have hz3 : w3.heap.size = wr.heap.size + 1 := by rw [← hw3]; simp
      obtain ⟨d0, d1, d2, _⟩ := mdk_cells hB3
      have HR1 := Lib.hid hR1
      clear hR1
      clear k0 k1
      cases sw with
      | true =>
        have HSZ : Hid (xs.length = (R (i + 1)).length) := Lib.hid (by rw [HR1.out]; rfl)
        have hxl : xs.length ≤ 16384 := by rw [HSZ.out]; exact hlb
        obtain ⟨w4, hw4⟩ : ∃ W, w3.alloc (.cells #[] 5) = W := ⟨_, rfl⟩
        have hb4 : Below w3.heap.size w3 w4 := by rw [← hw4]; exact b_alloc _ _
        have hown4 : w4.ownsRow w.heap.size 5 1 (.slice (some ⟨wr.heap.size + 1, 0, none⟩) 0 0) 0 [] := by rw [← hw4, ← hz3]; exact World.ownsRow_lit w3 #[] 0 (by omega) (by unfold maxLen; omega) rfl
        obtain ⟨d0, d1, d2, _⟩ := mdk_cells (hB3.new hb4)
        have hXr4 := (hXr.new hb3).new hb4
        have hb34 := below_new hb3 hb4
        have hz4 := hb4.size
        go_wp2_with (at_builtin; refine wpList_app _ rfl _ _ 32 rfl w.heap.size 5 i0 (.int .u8 0) 1 Try.underlying32 hi hz0 hz1 hz2 rfl _ _ _ rfl hown4 _ Ax xs.length cx (u8s xs) rfl (by simp) hXr4 (one_ints _ _) (by unfold maxLen; omega) (by omega) (by omega) ?_)
        intro v5 w5 hown5 hg5 _
        obtain ⟨A5, c5, rfl, _, _⟩ := own_form hown5
        have hb5 : Below w.heap.size w w5 := (below_new hb hb34).grown hg5 (by omega) fun k hk => by simp [Value.ownBlock] at hk; omega
        clear hown4 hg5 hXr4 d0 d1 d2 hw4 hw3 c0 c1 c2' hXr hX
        go_wp2
        go_roundw
        have hsz := HSZ.out
        case rel => exact ⟨i + 1, A5, c5, by go_num, by omega, by rw [← hsz], by rw [← hsz, HR1.out]; exact hown5, hb5⟩
        case measure => simp [intOf]; omega
      | false =>
        have HSZ : Hid ((R i).length + 1 = (R (i + 1)).length) := Lib.hid (by rw [HR1.out]; simp [Dk.W.u, Dk.app])
        have hxl : (R i).length + 1 ≤ 16384 := by rw [HSZ.out]; exact hlb
        obtain ⟨w4, hw4⟩ : ∃ W, w3.alloc (.cells #[.int .u8 x] 5) = W := ⟨_, rfl⟩
        have hb4 : Below w3.heap.size w3 w4 := by rw [← hw4]; exact b_alloc _ _
        have hX4 : Rds w4 (fun _ => True) (some ⟨wr.heap.size + 1, 0, none⟩) (u8s [x]) := by rw [← hw4, ← hz3]; exact one_rds w3 .u8 x _
        have hb34 := below_new hb3 hb4
        have ho4 : w4.ownsRow w.heap.size 5 1 (.slice A (R i).length c) (R i).length (u8s (R i)) := own_keep ho fun g _ hl => hb34.block g hl
        have hz4 := hb4.size
        clear hXr hX
        go_wp2_with (at_builtin; refine wpList_app _ rfl _ _ 32 rfl w.heap.size 5 i0 (.int .u8 0) 1 Try.underlying32 hi hz0 hz1 hz2 rfl _ _ _ rfl ho4 _ (some ⟨wr.heap.size + 1, 0, none⟩) 1 1 (u8s [x]) rfl (by simp) hX4 (one_ints _ _) (by unfold maxLen; omega) (by omega) (by omega) ?_)
        intro v5 w5 hown5 hg5 _
        obtain ⟨A5, c5, rfl, _, _⟩ := own_form hown5
        have hk5 := fun k hk => (World.ownsRow.lt ho4 k hk).1
        have hb5 : Below w.heap.size w w5 := (below_new hb hb34).grown hg5 (by omega) fun k hk => by have := hk5 k hk; omega
        clear ho4 hg5 hX4 d0 d1 d2 hw4 hw3 c0 c1 c2'
        go_wp2
        go_roundw
        case rel => exact ⟨i + 1, A5, c5, by go_num, by omega, by rw [← HSZ.out], by rw [← HSZ.out, HR1.out]; simpa [Dk.W.u, Dk.app, u8s] using hown5, hb5⟩
        case measure => simp [intOf]; omega
    · have e : i = n := by omega
      subst e
      go_wp2
      go_ret
      exact ⟨A, c, rfl, ⟨own_monoK ho (Nat.zero_le _), fun b e => (World.ownsRow.lt ho b e).1⟩, hb⟩

/-- The document's disk, its units counted. -/
theorem MD.cells {w : World} {fp : Nat → Prop} {g : Nat} {Z : Int} {L : List Int} {us : List Dk.U} (h : MD w fp g Z L us) :
    ∃ lv A c l, us = l.map Dk.W.u ∧ l.length = us.length ∧ us.length ≤ c ∧ MDk w fp g Z lv L (.slice A us.length c) l ∧ Rds w fp A (Dk.wcs l) := by
  obtain ⟨lv, wv, l, rfl, h⟩ := h
  obtain ⟨A, c, e, hc, hr⟩ := h.row.form
  refine ⟨lv, A, c, l, rfl, by simp, by simpa using hc, ?_, hr.mono fun b hb => h.rowi b hb.2⟩
  rw [List.length_map, ← e]
  exact h
set_option maxRecDepth 100000 in
set_option maxHeartbeats 4000000 in
theorem rread_any {w : World} {fp : Nat → Prop} {g : Nat} {Z : Int} {L : List Int} {us : List Dk.U} (hM : MD w fp g Z L us) (hO : Dk.Ok Z L us) (hl : us.length ≤ 1000000000) :
    Calls Try.prog 28 #[.pointer (some ⟨g, 0, none⟩)] w (NewB (Dk.aft L us) w) := by
  obtain ⟨lv, A, c, l, e, hn, hc, hM, hr⟩ := hM.cells
  obtain ⟨k0, k1, k2, _⟩ := mdk_cells hM.blo
  have hA := rafter_any hM us.length (by omega) (by omega) (by rw [← e]; intro k; have := hO.all k; have := hO.hi; omega)
  rw [← e, List.take_length] at hA
  clear e hn
  go_enter Try.func28, Try.ntmps28
  go_wp2_with fail
  refine hA.mono ?_
  rintro e w1 ⟨A1, c1, rfl, h1, h2⟩
  go_wp2
  go_ret
  exact ⟨A1, c1, rfl, h1, h2⟩

/-- append([]byte{}, b...): a row of its own in any case. -/
theorem run_cpb {w : World} {B : Nat} {p : Addr} (h0 : ByR w (fun b => B ≤ b) (.slice (some p) 0 0) []) (hB : B ≤ w.heap.size) (ty : TypeId) (S : Nat → Prop) (A : Option Addr) (m c : Nat) (xs : List Int) (hm : xs.length = m) (hr : Rds w S A (u8s xs)) (h63 : m ≤ 140737488355328) :
    ∃ A' c' w', (Builtin.append_ #[32, 32] ty #[.slice (some p) 0 0, .slice A m c]).run Try.prog w = .ok (.slice A' xs.length c') w' ∧ ByR w' (fun b => B ≤ b) (.slice A' xs.length c') xs ∧ Below w.heap.size w w' := by
  obtain ⟨i, hi, hz, hsize, hby⟩ := info_parts Try.rowU8
  rcases Nat.eq_zero_or_pos m with rfl | hpos
  · have : xs = [] := List.eq_nil_of_length_eq_zero hm
    subst this
    refine ⟨some p, 0, w, ?_, h0, Below.refl _ _⟩
    cases A <;> simp [Builtin.append_, run_underlying Try.underlying32, sizeOf, typeInfo, hi, Builtin.lenOf, Builtin.firstCells, storeCells, loadCells, loadCellsFrom]
  · obtain ⟨v', w', hrun, h2, h3, h4⟩ := run_app (P := Try.prog) w w.heap.size 32 ty 5 i _ 1 Try.underlying32 hi hz hsize hby rfl (.slice none 0 0) 0 [] (World.ownsRow_nil _ _ _ _) S A m c (u8s xs) (by simpa using hm) hr (one_ints _ _) (by unfold maxLen; omega) (by omega) (Nat.le_refl _)
    obtain ⟨A', c', rfl, hc, _⟩ := own_form h2
    simp only [Nat.zero_add, List.nil_append] at h2 hrun hc
    have hn : Builtin.nextslicecap m 0 = m := by unfold Builtin.nextslicecap; simp; omega
    have f1 : ¬ 281474976710656 < m * i.bytes := by rw [hby]; omega
    have f2 : ¬ (9223372036854775807 : Int) < (m : Int) := by omega
    have f3 : ¬ m = 0 := by omega
    have key : (Builtin.append_ #[32, 32] ty #[.slice (some p) 0 0, .slice A m c]).run Try.prog w = .ok (.slice A' m c') w' := by
      rw [← hrun]
      cases A <;> simp [Builtin.append_, run_underlying Try.underlying32, sizeOf, typeInfo, hi, Builtin.lenOf, Builtin.firstCells, storeCells, loadCells, loadCellsFrom, hn, f1, f2, f3]
    subst hm
    exact ⟨A', c', w', key, ⟨own_mono h2 (Nat.zero_le _), fun b e => Nat.le_trans hB (World.ownsRow.lt h2 b e).1⟩, below_gb h3⟩
theorem ByR.lit (w : World) {B : Nat} (hB : B ≤ w.heap.size) : ByR (w.alloc (.cells #[] 5)) (fun b => B ≤ b) (.slice (some ⟨w.heap.size, 0, none⟩) 0 0) [] :=
  ⟨World.ownsRow_lit w #[] 0 (Nat.zero_le _) (by unfold maxLen; omega) rfl, fun b e => by simp [Value.ownBlock] at e; omega⟩
theorem ByR.new {fp : Nat → Prop} {w w' : World} {v : Value} {xs : List Int} (h : ByR w fp v xs) (hb : Below w.heap.size w w') : ByR w' fp v xs := h.keep fun b _ hl => hb.block b hl

/-- What a step of the document's leaves: the disk as it is then; all else that was there is as it was. -/
def DskPost (r : Value) (Z : Int) (L : List Int) (us : List Dk.U) (fp : Nat → Prop) (g : Nat) (w : World) (e : Ending) (w' : World) : Prop :=
  e = .returned r ∧ MD w' (fun b => fp b ∨ w.heap.size ≤ b) g Z L us ∧ Kp fp w w'
theorem kp_set {fp : Nat → Prop} {w : World} {p : Addr} (hf : fp p.block) (u : Value) : Kp fp w (w.setCell p u) := Kp.gb (gb_set (g := p.block) (World.grownBy.refl _ _) (.inl rfl) u) fun k e => by injection e with e; subst e; exact .inl hf
theorem ByR.blo {fp : Nat → Prop} {w : World} {v : Value} {xs : List Int} (h : ByR w fp v xs) {g : Nat} {t : TypeId} {cs : Array Value} (hb : Blo w g t cs) (ht : 5 ≠ t) : v.ownBlock ≠ some g := fun e => by
  obtain ⟨cs', hc⟩ := own_typed h.own e
  exact Blo.typeNe hc hb ht rfl
theorem ByR.other {fp : Nat → Prop} {w w' : World} {v : Value} {xs : List Int} (h : ByR w fp v xs) {g : Nat} {t : TypeId} {cs : Array Value} (hg : w.grownBy w' (some g)) (hb : Blo w g t cs) (ht : 5 ≠ t) : ByR w' fp v xs :=
  ⟨own_keepK h.own fun b e hl => hg.block b hl fun e' => by injection e' with e'; subst e'; exact h.blo hb ht e, h.inn⟩
set_option maxRecDepth 100000 in
set_option maxHeartbeats 4000000 in
theorem rcrash_any {w : World} {fp : Nat → Prop} {g : Nat} {Z : Int} {L : List Int} {us : List Dk.U} (hM : MD w fp g Z L us) (hO : Dk.Ok Z L us) (hl : us.length ≤ 1000000000) (keep : Int) :
    Calls Try.prog 20 #[.pointer (some ⟨g, 0, none⟩), .int .i64 keep] w (DskPost (.tuple #[]) Z (Dk.aft L (us.take (Dk.cut keep us.length))) [] fp g w) := by
  obtain ⟨lv, A, c, l, e, hn, hc, hM, hr⟩ := hM.cells
  obtain ⟨k0, k1, k2, _⟩ := mdk_cells hM.blo
  have hk := Dk.cut_le keep us.length
  have hki := Dk.cut_int keep us.length
  obtain ⟨k, hk'⟩ : ∃ k, k = Dk.cut keep us.length := ⟨_, rfl⟩
  rw [← hk'] at hk hki ⊢
  have hA := rafter_any hM k (by omega) (by omega) (by rw [← e]; intro k; have := hO.all k; have := hO.hi; omega)
  rw [← e, hki] at hA
  obtain ⟨R, hR⟩ : ∃ R, R = Dk.aft L (us.take k) := ⟨_, rfl⟩
  rw [← hR] at hA ⊢
  have HA := Lib.hid hA
  clear hR e hA hn hO hk hk' hki
  go_enter Try.func20, Try.ntmps20
  go_wp2_with fail
  refine HA.out.mono ?_
  rintro e w1 ⟨A1, c1, rfl, h1, h2⟩
  have hM1 := hM.keep (w' := w1) fun b _ hl => h2.block b hl
  obtain ⟨k0, k1, k2, f0, f1, f2⟩ := mdk_cells hM1.blo
  obtain ⟨w2, hw2⟩ : ∃ W, w1.setCell ⟨g, 1, none⟩ (.slice A1 R.length c1) = W := ⟨_, rfl⟩
  have hB2 := hM1.blo.put 1 (.slice A1 R.length c1)
  rw [hw2] at hB2
  have hK2 : Kp fp w w2 := (Kp.of h2).trans (fq := fp) (by rw [← hw2]; exact kp_set (p := ⟨g, 1, none⟩) hM.inn _) fun b => .inl
  have hg2 : w1.grownBy w2 (some g) := by rw [← hw2]; exact gb_set (World.grownBy.refl _ _) (.inl rfl) _
  have hL2 := h1.other hg2 hM1.blo (by decide)
  obtain ⟨w3, hw3⟩ : ∃ W, w2.setCell ⟨g, 2, none⟩ (.slice none 0 0) = W := ⟨_, rfl⟩
  have hB3 := hB2.put 2 (.slice none 0 0)
  rw [hw3] at hB3
  have hK3 : Kp fp w w3 := hK2.trans (fq := fp) (by rw [← hw3]; exact kp_set (p := ⟨g, 2, none⟩) hM.inn _) fun b => .inl
  have hg3 : w2.grownBy w3 (some g) := by rw [← hw3]; exact gb_set (World.grownBy.refl _ _) (.inl rfl) _
  have hL3 := hL2.other hg3 hB2 (by decide)
  have hfin : MD w3 (fun b => fp b ∨ w.heap.size ≤ b) g Z R [] :=
    ⟨_, .slice none 0 0, [], rfl, by simpa using hB3, .inl hM.inn, hL3.mono fun b hb _ => .inr hb, World.ownsRow_nil _ _ _ _, (fun b e => by cases e), (fun x hx => by cases hx)⟩
  have q2 : w2.cell? ⟨g, 2, none⟩ = some (.slice A us.length c) := by simpa using hB2.cell 2
  have qf := hB2.frozen 2
  clear hL3 hL2 hB3 hB2 hg2 hg3 hK2 hM1 h1 h2
  go_wp2
  go_end0
  exact ⟨rfl, hfin, hK3⟩

set_option maxRecDepth 100000 in
set_option maxHeartbeats 4000000 in
theorem rsync_any {w : World} {fp : Nat → Prop} {g : Nat} {Z : Int} {L : List Int} {us : List Dk.U} (hM : MD w fp g Z L us) (hO : Dk.Ok Z L us) (hl : us.length ≤ 1000000000) :
    Calls Try.prog 36 #[.pointer (some ⟨g, 0, none⟩)] w (DskPost (.tuple #[]) Z (Dk.aft L us) [] fp g w) := by
  have hA := rcrash_any hM hO hl us.length
  have e : Dk.cut us.length us.length = us.length := by unfold Dk.cut; omega
  rw [e, List.take_length] at hA
  obtain ⟨lv, A, c, l, e, hn, hc, hM, hr⟩ := hM.cells
  obtain ⟨k0, k1, k2, _⟩ := mdk_cells hM.blo
  have HA := Lib.hid hA
  clear hA e hn hO
  go_enter Try.func36, Try.ntmps36
  go_wp2_with fail
  refine HA.out.mono ?_
  rintro e w1 ⟨rfl, h1, h2⟩
  go_wp2
  go_end0
  exact ⟨rfl, h1, h2⟩
/-- New. -/
def RNewPost (Z : Int) (w : World) (e : Ending) (w' : World) : Prop :=
  if 1 ≤ Z ∧ Z ≤ 16384 then ∃ g, e = .returned (.tuple #[.pointer (some ⟨g, 0, none⟩), .int .i64 0]) ∧ MD w' (fun b => w.heap.size ≤ b) g Z [] [] ∧ Below w.heap.size w w'
  else e = .returned (.tuple #[.pointer none, .int .i64 2]) ∧ w = w'
set_option maxRecDepth 100000 in
set_option maxHeartbeats 4000000 in
theorem rnew_any (Z : Int) (w : World) : Calls Try.prog 10 #[.int .i64 Z] w (RNewPost Z w) := by
  by_cases h1 : Z < 1
  · have HP : Hid (∀ e w', e = .returned (.tuple #[.pointer none, .int .i64 2]) ∧ w = w' → RNewPost Z w e w') := Lib.hid (fun e w' h => by unfold RNewPost; rw [if_neg (fun h => by omega)]; exact h)
    go_enter Try.func10, Try.ntmps10
    go_wp2
    go_ret2
    exact HP.out _ _ ⟨rfl, rfl⟩
  · by_cases h2 : 16384 < Z
    · have HP : Hid (∀ e w', e = .returned (.tuple #[.pointer none, .int .i64 2]) ∧ w = w' → RNewPost Z w e w') := Lib.hid (fun e w' h => by unfold RNewPost; rw [if_neg (fun h => by omega)]; exact h)
      go_enter Try.func10, Try.ntmps10
      go_wp2
      go_ret2
      exact HP.out _ _ ⟨rfl, rfl⟩
    · obtain ⟨w1, hw1⟩ : ∃ W, w.alloc (.cells #[.int .i64 Z, .slice none 0 0, .slice none 0 0] 66) = W := ⟨_, rfl⟩
      have hb1 : Below w.heap.size w w1 := by rw [← hw1]; exact b_alloc _ _
      have hB : Blo w1 w.heap.size 66 #[.int .i64 Z, .slice none 0 0, .slice none 0 0] := by rw [← hw1]; exact Blo.made _ _ _
      have hfin : MD w1 (fun b => w.heap.size ≤ b) w.heap.size Z [] [] := ⟨_, .slice none 0 0, [], rfl, hB, Nat.le_refl _, ByR.nil _ _, World.ownsRow_nil _ _ _ _, (fun b e => by cases e), (fun x hx => by cases hx)⟩
      have HP : Hid (RNewPost Z w (.returned (.tuple #[.pointer (some ⟨w.heap.size, 0, none⟩), .int .i64 0])) w1) := Lib.hid (by unfold RNewPost; rw [if_pos (by omega)]; exact ⟨_, rfl, hfin, hb1⟩)
      clear hB hfin hb1
      go_enter Try.func10, Try.ntmps10
      go_wp2
      go_ret2
      exact HP.out
end Go.Proofs.Ytfllebfegngdhaa
