/- Layer 9, the program's: Works. -/
import Derived.Test.YtgjepgnbkfbodaaPolShelf
import Derived.Test.YtgjepgnbkfbodaaEvMem
namespace Go.Proofs.Ytgjepgnbkfbodaa
set_option linter.unusedVariables false
set_option linter.unusedSimpArgs false
open Go.ChangeShapes Go.WideShapes Go.ChangeAt Go.RowKit Go.Sort Go.Lib

theorem Try.rowInt9 : (Try.prog.info? 3).map (fun i => (i.zero, i.size, i.bytes)) = some (some (.int .i64 0), 1, 8) := by kernel_rfl

/-! What compacting ordered numbers comes to -/
theorem cmp_spec (d : Array Int) (hs : ∀ i j, i ≤ j → j < d.size → d[i]! ≤ d[j]!) : ∀ m, m ≤ d.size → (compactUpTo d m).Pairwise (· < ·) ∧ (∀ x ∈ compactUpTo d m, ∃ j, j < m ∧ x = d[j]!) ∧ (∀ j, j < m → d[j]! ∈ compactUpTo d m)
  | 0, _ => ⟨by simp [compactUpTo], by simp [compactUpTo], fun j hj => by omega⟩
  | m + 1, hm => by
    obtain ⟨h1, h2, h3⟩ := cmp_spec d hs m (by omega)
    rw [compactUpTo_succ]
    cases hk : keeps d m with
    | true =>
      simp only [if_true]
      refine ⟨List.pairwise_append.2 ⟨h1, List.pairwise_singleton _ _, fun a ha b hb => ?_⟩, fun x hx => ?_, fun j hj => ?_⟩
      · simp at hb
        subst hb
        obtain ⟨j, hj, rfl⟩ := h2 a ha
        have hle : d[j]! ≤ d[m - 1]! := hs j (m - 1) (by omega) (by omega)
        have hle2 : d[m - 1]! ≤ d[m]! := hs (m - 1) m (by omega) (by omega)
        have hne : d[m]! ≠ d[m - 1]! := by
          simp [keeps] at hk
          rcases hk with hk | hk
          · omega
          · exact hk
        omega
      · rcases List.mem_append.1 hx with hx | hx
        · obtain ⟨j, hj, e⟩ := h2 x hx
          exact ⟨j, by omega, e⟩
        · simp at hx
          exact ⟨m, by omega, hx⟩
      · rcases Nat.lt_or_ge j m with h | h
        · exact List.mem_append_left _ (h3 j h)
        · have : j = m := by omega
          subst this
          exact List.mem_append_right _ (by simp)
    | false =>
      simp only [Bool.false_eq_true, if_false, List.append_nil]
      refine ⟨h1, fun x hx => ?_, fun j hj => ?_⟩
      · obtain ⟨j, hj, e⟩ := h2 x hx
        exact ⟨j, by omega, e⟩
      · rcases Nat.lt_or_ge j m with h | h
        · exact h3 j h
        · have : j = m := by omega
          subst this
          simp [keeps] at hk
          rw [hk.2]
          exact h3 (j - 1) (by omega)
theorem compact_spec {zs : List Int} (hs : zs.Pairwise (· ≤ ·)) : (compact zs).Pairwise (· < ·) ∧ (∀ x, x ∈ compact zs ↔ x ∈ zs) := by
  have hg : ∀ j, j < zs.length → zs.toArray[j]! = zs[j]! := fun j hj => by simp
  obtain ⟨h1, h2, h3⟩ := cmp_spec zs.toArray (fun i j hij hj => by
    have hj' : j < zs.length := by simpa using hj
    rw [getElem!_pos zs.toArray i (by simp; omega), getElem!_pos zs.toArray j hj]
    rcases Nat.lt_or_ge i j with h | h
    · exact List.pairwise_iff_getElem.1 hs i j (by omega) hj' h
    · have : i = j := by omega
      subst this
      exact Int.le_refl _) zs.length (by simp)
  refine ⟨h1, fun x => ⟨fun hx => ?_, fun hx => ?_⟩⟩
  · obtain ⟨j, hj, rfl⟩ := h2 x hx
    rw [getElem!_pos zs.toArray j (by simpa using hj)]
    simp
  · obtain ⟨j, hj, rfl⟩ := List.mem_iff_getElem.1 hx
    have := h3 j hj
    rw [getElem!_pos zs.toArray j (by simpa using hj)] at this
    simpa [compact] using this

/-! What the library's contracts say of memory -/
theorem gb_put (w : World) (n g : Nat) (d : Array Int) (os : Array Obj) : w.grownBy (grow (putRow (Value.int .i64) (Sort.ahead w n) g 0 d) os) (some g) := by
  refine ⟨rfl, rfl, rfl, by simp [grow], fun i hi hne => ?_⟩
  have hne' : g ≠ i := fun e => hne (by rw [e])
  have h1 : (putRow (Value.int .i64) (Sort.ahead w n) g 0 d).heap[i]? = w.heap[i]? := by
    simp [putRow, mapBlock, Array.getElem?_modify, hne']
  rw [← h1]
  simp only [grow]
  rw [Array.getElem?_append_left (by simpa using hi)]
theorem gb_put0 (w : World) (n g : Nat) (d : Array Int) : w.grownBy (putRow (Value.int .i64) (Sort.ahead w n) g 0 d) (some g) := by
  have := gb_put w n g d #[]
  rwa [grow_empty] at this
theorem holds_grow {w : World} {g : Nat} {d : Array Int} (os : Array Obj) (h : Holds (Value.int .i64) w g 0 d) (hg : g < w.heap.size) : Holds (Value.int .i64) (grow w os) g 0 d := fun j hj => by
  have hb : (grow w os).heap[g]? = w.heap[g]? := by
    simp only [grow]
    rw [Array.getElem?_append_left hg]
  obtain ⟨h1, h2⟩ := h j hj
  refine ⟨(World.cell?_of_block (w := w) hb).trans h1, ?_⟩
  rw [← h2]
  unfold World.frozen?
  simp only [hb]
theorem holds_rds {w : World} {g : Nat} {zs : List Int} {rest : List Int} (h : Holds (Value.int .i64) w g 0 (zs ++ rest).toArray) : Rds w (fun b => b = g) (some ⟨g, 0, none⟩) (zs.map (Value.int .i64)) := by
  intro j u hu
  have hj : j < zs.length := by
    rcases Nat.lt_or_ge j zs.length with h1 | h1
    · exact h1
    · rw [List.getElem?_map, List.getElem?_eq_none h1] at hu; cases hu
  have h1 := (h j (by simp; omega)).1
  rw [getElem!_pos (zs ++ rest).toArray j (by simp; omega)] at h1
  rw [List.getElem?_map, List.getElem?_eq_getElem hj] at hu
  simp at hu
  subst hu
  refine ⟨_, rfl, rfl, ?_⟩
  rw [M.addMk]
  simpa [List.getElem_append_left hj] using h1
theorem own_holds {w : World} {B : Nat} {A : Option Addr} {n c : Nat} {zs : List Int} (h : w.ownsRow B 3 1 (.slice A n c) n (zs.map (Value.int .i64))) (hn : n ≠ 0) : ∃ g, A = some ⟨g, 0, none⟩ ∧ B ≤ g ∧ g < w.heap.size ∧ n ≤ c ∧ zs.length = n ∧ Holds (Value.int .i64) w g 0 zs.toArray := by
  rcases h.2 with ⟨e, h0⟩ | ⟨g, cap, cur, e, hb, hh, hle, hm, hcz, hcells⟩
  · injection e with e1 e2 e3; omega
  · injection e with e1 e2 e3
    subst e3
    have hlt : g < w.heap.size := (Array.getElem?_eq_some_iff.1 hh).1
    have hzl : zs.length = n := by have := h.1; simpa using this
    refine ⟨g, e1, hb, hlt, hle, hzl, fun j hj => ?_⟩
    have hj' : j < zs.length := by simpa using hj
    have h2 : cur[j]? = some (.int .i64 zs[j]) := by
      have h3 : (cur.toList.take (n * 1))[j]? = (zs.map (Value.int .i64))[j]? := by rw [hcells]
      rw [List.getElem?_take, if_pos (by omega)] at h3
      simpa [hj'] using h3
    refine ⟨?_, by simp [World.frozen?, hh]⟩
    rw [Nat.zero_add, cell_of_row w g j _ _ _ hh, h2, getElem!_pos zs.toArray j (by simpa using hj')]
    simp

/-- The workloads of Sets, as they stand. -/
def wk (l : List EvV) : List Int := (l.filter (fun e => e.F 3 == 2)).map (·.F 4)
theorem wk_take {l : List EvV} {i : Nat} (h : i < l.length) : wk (l.take (i + 1)) = wk (l.take i) ++ if l[i].F 3 = 2 then [l[i].F 4] else [] := by
  unfold wk
  rw [List.take_succ_eq_append_getElem h, List.filter_append, List.map_append]
  by_cases hs : l[i].F 3 = 2 <;> simp [hs]
theorem wk_le (l : List EvV) : (wk l).length ≤ l.length := by
  unfold wk
  rw [List.length_map]
  exact List.length_filter_le _ _
theorem mem_wk {l : List EvV} {x : Int} : x ∈ wk l ↔ ∃ e ∈ l, e.F 3 = 2 ∧ e.F 4 = x := by
  unfold wk
  simp only [List.mem_map, List.mem_filter, beq_iff_eq]
  constructor
  · rintro ⟨e, ⟨h1, h2⟩, h3⟩; exact ⟨e, h1, h2, h3⟩
  · rintro ⟨e, h1, h2, h3⟩; exact ⟨e, ⟨h1, h2⟩, h3⟩
/-- A row that is in order, and may be written. -/
def SRowI (w : World) (B : Nat) (A : Option Addr) (N c : Nat) (zs : List Int) : Prop := zs.Pairwise (· ≤ ·) ∧ zs.length = N ∧ N ≤ c ∧ (N = 0 ∨ ∃ g, A = some ⟨g, 0, none⟩ ∧ B ≤ g ∧ g < w.heap.size ∧ Holds (Value.int .i64) w g 0 zs.toArray)
theorem sort_own {w : World} {B : Nat} {A : Option Addr} {N c : Nat} {zs : List Int} (h : w.ownsRow B 3 1 (.slice A N c) N (zs.map (Value.int .i64))) (hN : N ≤ 900000) (hB : B ≤ w.heap.size) :
    Calls Try.prog 31 #[.slice A N c] w fun e w' => e = .returned (.tuple #[]) ∧ (∃ ys, SRowI w' B A N c ys ∧ ∀ x, x ∈ ys ↔ x ∈ zs) ∧ Below B w w' := by
  have hzl : zs.length = N := by have := own_len h; simpa using this
  by_cases h0 : N = 0
  · subst h0
    refine (Try.slices_Sort_int_none A c w).mono ?_
    rintro e w2 ⟨rfl, rfl⟩
    have hz : zs = [] := List.eq_nil_of_length_eq_zero hzl
    subst hz
    exact ⟨rfl, ⟨[], ⟨List.Pairwise.nil, rfl, Nat.zero_le _, .inl rfl⟩, fun x => Iff.rfl⟩, Below.refl _ _⟩
  · obtain ⟨g, rfl, hgb, hgl, hnc, _, hH⟩ := own_holds h h0
    have hsort := Try.slices_Sort_int g 0 c zs w hH hgl (by rw [hzl]; omega)
    rw [hzl] at hsort
    refine hsort.mono ?_
    rintro e w2 ⟨rfl, m, os, rfl⟩
    have hyl : (zs.mergeSort fun x y => decide (x ≤ y)).length = zs.length := List.length_mergeSort _
    refine ⟨rfl, ⟨zs.mergeSort fun x y => decide (x ≤ y), ⟨?_, by rw [hyl, hzl], hnc, .inr ⟨g, rfl, hgb, ?_, ?_⟩⟩, fun x => (List.mergeSort_perm zs _).mem_iff⟩, ?_⟩
    · have := List.pairwise_mergeSort (le := fun x y : Int => decide (x ≤ y)) (by intro a b c h1 h2; simp at h1 h2 ⊢; omega) (by intro a b; simp; omega) zs
      exact this.imp (by intro a b h; simpa using h)
    · exact Nat.lt_of_lt_of_le hgl (gb_put w m g _ os).size
    · exact holds_grow os (holds_putRow _ _ _ _ _ _ (holds_ahead _ _ _ _ _ _ hH) (by simp)) (by simpa using hgl)
    · exact below_gb' (gb_put w m g _ os) hB hgb
theorem compact_len (ys : List Int) : (compact ys).length ≤ ys.length := by
  unfold compact compactUpTo
  rw [List.length_map]
  have := List.length_filter_le (keeps ys.toArray) (List.range ys.length)
  simpa using this
theorem compact_own {w : World} {B : Nat} {A : Option Addr} {N c : Nat} {ys : List Int} (h : SRowI w B A N c ys) (hN : N ≤ 900000) (hB : B ≤ w.heap.size) :
    Calls Try.prog 32 #[.slice A N c] w fun e w' => (∃ (M : Nat) (ws : List Int), e = .returned (.slice A M c) ∧ M = ws.length ∧ Rds w' (fun b => B ≤ b) A (ws.map (Value.int .i64)) ∧ ws.Pairwise (· < ·) ∧ ∀ x, x ∈ ws ↔ x ∈ ys) ∧ Below B w w' := by
  obtain ⟨hs, hl, hnc, h0 | ⟨g, rfl, hgb, hgl, hH⟩⟩ := h
  · subst h0
    refine (Try.slices_Compact_int_empty A c w).mono ?_
    rintro e w2 ⟨rfl, rfl⟩
    have hz : ys = [] := List.eq_nil_of_length_eq_zero hl
    subst hz
    exact ⟨⟨0, [], rfl, rfl, Rds.nil, List.Pairwise.nil, fun x => Iff.rfl⟩, Below.refl _ _⟩
  · have hcomp := Try.slices_Compact_int g 0 c ys w hH (by rw [hl]; omega) (by rw [hl]; exact hnc)
    rw [hl] at hcomp
    refine hcomp.mono ?_
    rintro e w2 ⟨rfl, q, rfl⟩
    obtain ⟨k1, k2⟩ := compact_spec hs
    have hcl := compact_len ys
    refine ⟨⟨_, compact ys, rfl, rfl, ?_, k1, k2⟩, below_gb' (gb_put0 w q g _) hB hgb⟩
    have hH3 := holds_putRow (Value.int .i64) (Sort.ahead w q) g 0 ys.toArray (compact ys ++ List.replicate (N - (compact ys).length) 0).toArray (holds_ahead _ _ _ _ _ _ hH) (by simp; omega)
    exact (holds_rds hH3).mono (fun b hb => by rw [hb]; exact hgb)
def WorksPost (l : List EvV) (w : World) (e : Ending) (w' : World) : Prop :=
  ∃ (A : Option Addr) (N c : Nat) (ws : List Int), e = .returned (.slice A N c) ∧ N = ws.length ∧ Rds w' (fun b => w.heap.size ≤ b) A (ws.map (Value.int .i64)) ∧ ws.Pairwise (· < ·) ∧ (∀ x, x ∈ ws ↔ ∃ e ∈ l, e.F 3 = 2 ∧ e.F 4 = x) ∧ Below w.heap.size w w'

set_option maxRecDepth 100000 in
set_option maxHeartbeats 1500000 in
theorem works_any (S : Nat → Prop) (A : Option Addr) (n c : Nat) (l : List EvV) (w : World) (hn : l.length = n) (hr : ERds w S A l) (hl : n ≤ 900000) :
    Calls Try.prog 16 #[.slice A n c] w (WorksPost l w) := by
  have HN := Lib.hid hn
  clear hn
  obtain ⟨i0, hi, hz0, hz1, hz2⟩ := info_parts Try.rowInt9
  have HI := Lib.hid hi
  have HZ := Lib.hid (And.intro hz0 (And.intro hz1 hz2))
  clear hi hz0 hz1 hz2
  go_enter Try.func16, Try.ntmps16
  go_wp2_with fail
  go_loopw [3, 8] (fun ov iv wr => ∃ (i : Nat) (Ao : Option Addr) (No co : Nat), iv = .int .i64 i ∧ i ≤ n ∧ ov = .slice Ao No co ∧ No ≤ i ∧ wr.ownsRow w.heap.size 3 1 (.slice Ao No co) No ((wk (l.take i)).map (Value.int .i64)) ∧ Below w.heap.size w wr) (fun _ iv _ => n - (intOf iv).toNat)
  case atStart => exact ⟨0, none, 0, 0, rfl, by omega, rfl, by omega, by simpa [wk] using World.ownsRow_nil _ _ _ _, Below.refl _ _⟩
  case round =>
    obtain ⟨i, Ao, No, co, rfl, hi, rfl, hNi, hO, hb⟩ := hrel
    by_cases hlt : i < n
    · have hlt' : i < l.length := by rw [HN.out]; exact hlt
      have hiN : (i : Int) < (n : Int) := by omega
      obtain ⟨ad, rfl, _, _, c0, c1, c2, c3, c4, c5, c6, c7, c8, c9, c10, c11, c12, c13⟩ := (hr.new hb).cells hlt'
      obtain ⟨x, hx⟩ : ∃ x, x = l[i] := ⟨_, rfl⟩
      rw [← hx] at c0 c1 c2 c3 c4 c5 c6 c7 c8 c9 c10 c11 c12 c13
      have HT := Lib.hid (wk_take hlt')
      rw [← hx] at HT
      clear hx
      obtain ⟨F, M, Ax, cx⟩ := x
      simp only at c0 c1 c2 c3 c4 c5 c6 c7 c8 c9 c10 c11 c12 c13 HT
      obtain ⟨q, hq⟩ : ∃ q, M.length = q := ⟨_, rfl⟩
      rw [hq] at c13
      obtain ⟨w1, hw1⟩ : ∃ W, wr.alloc (.cells (ecs F Ax q cx) 34) = W := ⟨_, rfl⟩
      have hb1 : Below wr.heap.size wr w1 := by rw [← hw1]; exact b_alloc _ _
      have hO1 := own_keep hO (fun g hg hl => hb1.block g hl)
      have hb01 := below_new hb hb1
      have hs1 := hb01.size
      have HW1 := Lib.hid hw1
      clear hq hw1 hO
      by_cases h3 : F 3 = 2
      · have h3' : (F 3 == 2) = true := by simpa using h3
        have HY : Hid (wk (l.take (i + 1)) = wk (l.take i) ++ [F 4]) := Lib.hid (by rw [HT.out, if_pos h3])
        clear h3
        have hz1 : w1.heap.size = wr.heap.size + 1 := by rw [← HW1.out]; simp
        have hlit := one_rds w1 .i64 (F 4) 3
        rw [hz1, ← HW1.out] at hlit
        have hO2 : ((wr.alloc (.cells (ecs F Ax q cx) 34)).alloc (.cells #[.int .i64 (F 4)] 3)).ownsRow w.heap.size 3 1 (.slice Ao No co) No ((wk (l.take i)).map (Value.int .i64)) := by
          rw [HW1.out]
          exact own_keep hO1 (fun g hg hl => Below.heap_alloc w1 _ g hl)
        have hB2 : w.heap.size ≤ ((wr.alloc (.cells (ecs F Ax q cx) 34)).alloc (.cells #[.int .i64 (F 4)] 3)).heap.size := by rw [HW1.out]; simp; omega
        clear hz1 hO1
        go_wp2_with (at_builtin; refine wpList_app _ rfl _ _ 37 rfl w.heap.size 3 i0 _ 8 Try.underlying37 HI.out HZ.out.1 HZ.out.2.1 HZ.out.2.2 rfl _ No _ rfl hO2 (fun _ => True) _ 1 1 [.int .i64 (F 4)] rfl rfl hlit (fun u hu => by simp at hu; subst hu; rfl) (by unfold maxLen; omega) (by omega) hB2 ?_)
        intro v3 w3 hrow3 hg3 hv3
        have hb03 : Below w.heap.size w w3 := by
          have h1 := below_new hb01 (b_alloc w1 (.cells #[.int .i64 (F 4)] 3))
          rw [← HW1.out] at h1
          exact h1.grown hg3 h1.size (fun k hk => (World.ownsRow.lt hO2 k hk).1)
        obtain ⟨A3, c3', rfl, _⟩ := own_form hrow3
        have hrow4 : w3.ownsRow w.heap.size 3 1 (.slice A3 (No + 1) c3') (No + 1) ((wk (l.take (i + 1))).map (Value.int .i64)) := by rw [HY.out, List.map_append]; exact hrow3
        clear hrow3 hg3 hv3 hlit hO2 hb01 hb hb1
        go_wp2
        go_roundw
        case rel => exact ⟨i + 1, A3, No + 1, c3', by go_num, by omega, rfl, by omega, hrow4, hb03⟩
        case measure => simp [intOf]; omega
      · have h3' : (F 3 == 2) = false := by simpa using h3
        have HY : Hid (wk (l.take (i + 1)) = wk (l.take i)) := Lib.hid (by rw [HT.out, if_neg h3, List.append_nil])
        clear h3 hb
        go_wp2
        go_roundw
        case rel => exact ⟨i + 1, Ao, No, co, by go_num, by omega, rfl, by omega, by rw [HY.out, HW1.out]; exact hO1, by rw [HW1.out]; exact hb01⟩
        case measure => simp [intOf]; omega
    · have hiN : ¬ (i : Int) < (n : Int) := by omega
      have HWK : Hid (wk (l.take i) = wk l) := Lib.hid (by rw [List.take_of_length_le (by rw [HN.out]; omega)])
      have hso := sort_own hO (by omega) hb.size
      have HSO := Lib.hid hso
      have hbs := hb.size
      clear hso hO
      go_wp2_with fail
      refine HSO.out.mono ?_
      rintro e w2 ⟨rfl, ⟨ys, hS2, hm2⟩, hb2⟩
      have hb02 : Below w.heap.size w w2 := hb.trans hb2
      have hco := compact_own hS2 (by omega) hb02.size
      have HCO := Lib.hid hco
      have HM2 := Lib.hid hm2
      clear hco hS2 hm2 hb hb2 HSO
      go_wp2_with fail
      refine HCO.out.mono ?_
      rintro e w3 ⟨⟨M, ws, rfl, hM, hR, hp, hm3⟩, hb3⟩
      have hb03 : Below w.heap.size w w3 := hb02.trans hb3
      have HF : Hid (WorksPost l w (.returned (.slice Ao M co)) w3) := Lib.hid ⟨Ao, M, co, ws, rfl, hM, hR, hp, fun x => by rw [hm3, HM2.out, HWK.out, mem_wk], hb03⟩
      clear hM hR hp hm3 hb3 hb02 hb03 HCO
      go_wp2
      go_ret
      exact HF.out
end Go.Proofs.Ytgjepgnbkfbodaa
