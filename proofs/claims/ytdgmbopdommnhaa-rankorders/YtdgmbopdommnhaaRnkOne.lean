/- Layer 12: what RankOne comes to. -/
import Derived.Test.YtdgmbopdommnhaaRnkLaw1
namespace Go.Proofs.Ytdgmbopdommnhaa
set_option linter.unusedVariables false
set_option linter.unusedSimpArgs false
open Go.ChangeShapes Go.WideShapes Go.ChangeAt Go.RowKit

/-! ### places in a list -/
theorem R.idx_two {l : List Nat} {f : Nat → Bool} {p q : Nat} (h : l.filter f = [p, q]) (hpq : p ≠ q) : l.idxOf p < l.idxOf q := by
  induction l with
  | nil => simp at h
  | cons z l ih =>
    have hp : f p = true := (List.mem_filter.1 (by rw [h]; simp : p ∈ (z :: l).filter f)).2
    have hq : f q = true := (List.mem_filter.1 (by rw [h]; simp : q ∈ (z :: l).filter f)).2
    by_cases hz : f z = true
    · rw [List.filter_cons_of_pos hz] at h
      injection h with h1 h2
      subst h1
      have e1 : (z :: l).idxOf q = l.idxOf q + 1 := by
        have e : (z == q) = false := by simpa using hpq
        rw [List.idxOf_cons, e]; rfl
      rw [List.idxOf_cons_self, e1]
      omega
    · rw [List.filter_cons_of_neg hz] at h
      have hzp : z ≠ p := fun e => hz (by rw [e]; exact hp)
      have hzq : z ≠ q := fun e => hz (by rw [e]; exact hq)
      have e1 : (z :: l).idxOf p = l.idxOf p + 1 := by
        have e : (z == p) = false := by simpa using hzp
        rw [List.idxOf_cons, e]; rfl
      have e2 : (z :: l).idxOf q = l.idxOf q + 1 := by
        have e : (z == q) = false := by simpa using hzq
        rw [List.idxOf_cons, e]; rfl
      rw [e1, e2]
      have := ih h
      omega
/-- Where each node stands among the first ones, from 1 on; 0: it doesn't. -/
def R.pos (l : List Nat) (m : Nat) : Int := if m ∈ l then (l.idxOf m : Int) + 1 else 0
theorem R.pos_snoc {l : List Nat} {x : Nat} (h : x ∉ l) (m : Nat) : R.pos (l ++ [x]) m = if m = x then (l.length : Int) + 1 else R.pos l m := by
  unfold R.pos
  by_cases hm : m = x
  · subst hm
    rw [if_pos (by simp), if_pos rfl, List.idxOf_append, if_neg h]
    simp
  · rw [if_neg hm]
    by_cases hl : m ∈ l
    · rw [if_pos (by simp [hl]), if_pos hl, List.idxOf_append, if_pos hl]
    · rw [if_neg (by simp [hl, hm]), if_neg hl]
theorem R.pos_bd (l : List Nat) (m : Nat) : 0 ≤ R.pos l m ∧ R.pos l m ≤ l.length := by
  unfold R.pos
  split
  · rename_i h
    have := List.idxOf_lt_length_of_mem h
    omega
  · omega
theorem R.two_len : ∀ x : Fin 8, ∀ y : Fin 8, x ≠ y → (R.here [(x.val : Int), (y.val : Int)] 8).length = 2 := by decide
/-- The two, and where they stand among all. -/
theorem R.two {x y : Nat} (hx : x < 8) (hy : y < 8) (hxy : x ≠ y) (ns : List Int) (k : Int) (s : Nat) : ∃ p q, R.all [(x : Int), (y : Int)] k s = [p, q] ∧ p < 8 ∧ q < 8 ∧ 0 < R.pos (R.all ([(x : Int), (y : Int)] ++ ns) k s) p ∧ R.pos (R.all ([(x : Int), (y : Int)] ++ ns) k s) p < R.pos (R.all ([(x : Int), (y : Int)] ++ ns) k s) q := by
  have hlen : (R.all [(x : Int), (y : Int)] k s).length = 2 := by
    unfold R.all
    rw [P.isort_len]
    exact R.two_len ⟨x, hx⟩ ⟨y, hy⟩ (fun e => hxy (by simpa using congrArg Fin.val e))
  obtain ⟨p, q, e⟩ : ∃ p q, R.all [(x : Int), (y : Int)] k s = [p, q] := by
    match h : R.all [(x : Int), (y : Int)] k s, hlen with
    | [p, q], _ => exact ⟨p, q, rfl⟩
  have hnd := R.all_nodup (ns := [(x : Int), (y : Int)]) (k := k) (s := s)
  rw [e] at hnd
  have hpq : p ≠ q := by simpa using hnd
  have hp := (R.mem_all (ns := [(x : Int), (y : Int)]) (k := k) (s := s) (n := p)).1 (by rw [e]; simp)
  have hq := (R.mem_all (ns := [(x : Int), (y : Int)]) (k := k) (s := s) (n := q)).1 (by rw [e]; simp)
  have hf : R.all [(x : Int), (y : Int)] k s = (R.all ([(x : Int), (y : Int)] ++ ns) k s).filter (fun n => decide (n = x ∨ n = y)) := R.all_filter _ fun n hn => by
    simp only [List.mem_append, List.mem_cons, List.not_mem_nil, or_false, decide_eq_true_eq]
    constructor
    · intro h
      exact ⟨.inl h, by omega⟩
    · rintro ⟨_, h⟩
      omega
  rw [e] at hf
  have hi := R.idx_two hf.symm hpq
  have hpm : p ∈ R.all ([(x : Int), (y : Int)] ++ ns) k s := R.mem_all.2 ⟨hp.1, by simp only [List.mem_append]; exact .inl hp.2⟩
  have hqm : q ∈ R.all ([(x : Int), (y : Int)] ++ ns) k s := R.mem_all.2 ⟨hq.1, by simp only [List.mem_append]; exact .inl hq.2⟩
  refine ⟨p, q, e, hp.1, hq.1, ?_, ?_⟩
  · unfold R.pos; rw [if_pos hpm]; omega
  · unfold R.pos; rw [if_pos hpm, if_pos hqm]; omega
/-- Eight numbers. -/
abbrev nv8 (U : Nat → Int) : Array Value := #[.int .i64 (U 0), .int .i64 (U 1), .int .i64 (U 2), .int .i64 (U 3), .int .i64 (U 4), .int .i64 (U 5), .int .i64 (U 6), .int .i64 (U 7)]
theorem nv8_at (U : Nat → Int) {a : Nat} (ha : a < 8) : (nv8 U)[a]? = some (.int .i64 (U a)) := by
  rcases (show a = 0 ∨ a = 1 ∨ a = 2 ∨ a = 3 ∨ a = 4 ∨ a = 5 ∨ a = 6 ∨ a = 7 by omega) with rfl | rfl | rfl | rfl | rfl | rfl | rfl | rfl <;> rfl
theorem nv8_put (U : Nat → Int) {a : Nat} (ha : a < 8) (v : Int) : (nv8 U).setIfInBounds a (.int .i64 v) = nv8 (fun i => if i = a then v else U i) := by
  rcases (show a = 0 ∨ a = 1 ∨ a = 2 ∨ a = 3 ∨ a = 4 ∨ a = 5 ∨ a = 6 ∨ a = 7 by omega) with rfl | rfl | rfl | rfl | rfl | rfl | rfl | rfl <;> rfl
theorem lit_own (w : World) (l : List Int) (hl : l.length ≤ 1000) : (w.alloc (.cells (i64s l).toArray 3)).ownsRow w.heap.size 3 1 (.slice (some ⟨w.heap.size, 0, none⟩) l.length l.length) l.length (i64s l) := by
  have := World.ownsRow_lit (base := w.heap.size) (e := 3) (size := 1) w (i64s l).toArray l.length (Nat.le_refl _) (by unfold maxLen; omega) (by simp [i64s])
  simpa using this
/-- Nodes, a workload, a salt, and two numbers. -/
abbrev twV (A : Option Addr) (n c : Nat) (k : Int) (s : Nat) (a b : Int) : Array Value := #[.slice A n c, .int .i64 k, .int .u64 (s : Int), .int .u8 a, .int .u8 b]

set_option maxRecDepth 100000 in
set_option maxHeartbeats 8000000 in
theorem rnkone_main (S : Nat → Prop) (A : Option Addr) (n c : Nat) (ns : List Int) (k : Int) (s : Nat) (a b : Nat) (w : World) (hs : s < 18446744073709551616) (ha : a < 256) (hb' : b < 256) (hn : ns.length = n) (hr : Rds w S A (i64s ns)) :
    Calls Try.prog 6 #[.agg (twV A n c k s a b)] w fun e w' => e = .returned (.bool true) ∧ Below w.heap.size w w' := by
  obtain ⟨w1, hw1⟩ : ∃ W, w.alloc (.cells (twV A n c k s a b) 41) = W := ⟨_, rfl⟩
  have hb1 : Below w.heap.size w w1 := by rw [← hw1]; exact b_alloc _ _
  have hX1 : Blo w1 w.heap.size 41 (twV A n c k s a b) := by rw [← hw1]; exact Blo.made _ _ _
  have HW1 := Lib.hid hw1
  have HSS := Lib.hid hs
  have HN := Lib.hid hn
  clear hw1 hs hn
  go_enter Try.func6, Try.ntmps6
  go_wp2_with fail
  refine (rnkalive_any _).mono ?_
  rintro e w2 ⟨rfl, hb2⟩
  rw [HW1.out] at hb2
  have hb02 := below_new hb1 hb2
  have hX2 := hX1.new hb2
  have hr2 := hr.new hb02
  have x0 : w2.cell? ⟨w.heap.size, 0, none⟩ = some (.slice A n c) := by simpa using hX2.cell 0
  have x1 : w2.cell? ⟨w.heap.size, 1, none⟩ = some (.int .i64 k) := by simpa using hX2.cell 1
  have x2 : w2.cell? ⟨w.heap.size, 2, none⟩ = some (.int .u64 (s : Int)) := by simpa using hX2.cell 2
  have x3 : w2.cell? ⟨w.heap.size, 3, none⟩ = some (.int .u8 (a : Int)) := by simpa using hX2.cell 3
  have x4 : w2.cell? ⟨w.heap.size, 4, none⟩ = some (.int .u8 (b : Int)) := by simpa using hX2.cell 4
  clear hb1 hb2 hX1 hX2 hr
  go_wp2_with fail
  go_quiet (fail)
  obtain ⟨w3, hd, hW⟩ : ∃ W, Drew w2 W ∧ w2.drewN nq = W := ⟨_, (Drew.refl _).more nq, rfl⟩
  rw [hW]
  have hr3 := hd.rds hr2
  have hb03 := below_new hb02 (hd.below _)
  clear x0 x1 x2 x3 x4 hW hd hr2 hb02
  obtain ⟨x, hx⟩ : ∃ x, x = a % 8 := ⟨_, rfl⟩
  obtain ⟨y, hy⟩ : ∃ y, y = b % 8 := ⟨_, rfl⟩
  have hx8 : x < 8 := by omega
  have hy8 : y < 8 := by omega
  have ex : (a : Int) % 8 = (x : Int) := by omega
  have ey : (b : Int) % 8 = (y : Int) := by omega
  clear hx hy
  by_cases hl : 100 < n
  · have hl' : (100 : Int) < (n : Int) := by omega
    go_wp2
    go_ret
    exact ⟨rfl, hb03⟩
  · have hl' : ¬ (100 : Int) < (n : Int) := by omega
    by_cases hxy : x = y
    · subst hxy
      have hxx : ((x : Int) == (x : Int)) = true := by simp
      go_wp2
      go_ret
      exact ⟨rfl, hb03⟩
    · have hxx : ((x : Int) == (y : Int)) = false := by simpa using fun h => hxy (by omega)
      obtain ⟨p, q, hpq, hp8, hq8, hpos, hlt⟩ := R.two hx8 hy8 hxy ns k s
      have hn9 : n ≤ 900000 := by omega
      have hlit : Rds (w3.alloc (.cells #[.int .i64 (x : Int), .int .i64 (y : Int)] 3)) (fun _ => True) (some ⟨w3.heap.size, 0, none⟩) (i64s [(x : Int), (y : Int)]) := ilit_rds w3 [(x : Int), (y : Int)]
      have hor := porder_any _ _ 2 2 [(x : Int), (y : Int)] k s _ HSS.out rfl hlit (by omega)
      rw [hpq] at hor
      have HOR := Lib.hid hor
      have hr4 := hr3.new (b_alloc w3 (.cells #[.int .i64 (x : Int), .int .i64 (y : Int)] 3))
      have hb04 := below_new hb03 (b_alloc w3 (.cells #[.int .i64 (x : Int), .int .i64 (y : Int)] 3))
      have HPQ := Lib.hid (And.intro hpos hlt)
      clear hor hpq hlit hpos hlt hr3 hb03 hxy
      go_wp2_with fail
      refine HOR.out.mono ?_
      rintro e w5 ⟨A5, N5, c5, rfl, hN5, hR5, hb5⟩
      have h5 : N5 = 2 := hN5
      subst h5
      have hr5 := (hr4.new hb5).old
      have hR5 := hR5.old
      have hb05 := below_new hb04 hb5
      clear hN5 hr4 hb04 hb5 HOR
      obtain ⟨w6, hw6⟩ : ∃ W, w5.alloc (.cells (nv8 fun _ => 0) 38) = W := ⟨_, rfl⟩
      have hb6 : Below w5.heap.size w5 w6 := by rw [← hw6]; exact b_alloc _ _
      have hB6 : Blo w6 w5.heap.size 38 (nv8 fun _ => 0) := by rw [← hw6]; exact Blo.made _ _ _
      have hz6 : w6.heap.size = w5.heap.size + 1 := by rw [← hw6]; simp
      have hr6 := hr5.new hb6
      have hR6 := hR5.new hb6
      have hb06 := below_new hb05 hb6
      have HW6 := Lib.hid hw6
      have HZ6 := Lib.hid hz6
      have hs5 := hb05.size
      have hB6' : Blo (w5.alloc (.cells (nv8 fun _ => 0) 38)) w5.heap.size 38 (nv8 fun _ => 0) := Blo.made _ _ _
      clear hw6 hz6 hr5 hR5 hb05 hb6 hB6
      go_wp2_with (refine wpList_setb _ rfl 38 _ _ rfl w5.heap.size _ (nv8 fun _ => 0) rfl rfl hB6' (by kernel_rfl) rfl (by decide) ?_)
      intro w7 hB7 hg7
      rw [HW6.out] at hg7
      have hr7 := hr6.grown hg7 (fun b hb _ e => by injection e with e; have := hb.2; omega)
      have hR7 := hR6.grown hg7 (fun b hb _ e => by injection e with e; have := hb.2; omega)
      have hb07 := hb06.grown hg7 hb06.size (fun k hk => by injection hk with hk; omega)
      have hs57 : w5.heap.size < w7.heap.size := hB7.lt
      obtain ⟨i0, hi0, hz0, hz1, hz2⟩ := info_parts Try.rowIntK
      have hown : (w7.alloc (.cells #[.int .i64 (x : Int), .int .i64 (y : Int)] 3)).ownsRow w7.heap.size 3 1 (.slice (some ⟨w7.heap.size, 0, none⟩) 2 2) 2 (i64s [(x : Int), (y : Int)]) := lit_own w7 [(x : Int), (y : Int)] (by simp)
      have hr8 := hr7.new (b_alloc w7 (.cells #[.int .i64 (x : Int), .int .i64 (y : Int)] 3))
      have hs8 : w7.heap.size ≤ (w7.alloc (.cells #[.int .i64 (x : Int), .int .i64 (y : Int)] 3)).heap.size := (b_alloc w7 _).size
      have hnl : (i64s ns).length = n := by rw [i64s_len]; exact HN.out
      clear hg7 hB6' hr6 hR6 hb06
      go_wp2_with (at_builtin; refine wpList_app _ rfl _ _ 22 rfl w7.heap.size 3 i0 _ 8 Try.underlying22 hi0 hz0 hz1 hz2 rfl _ 2 _ rfl hown _ A n c (i64s ns) rfl hnl hr8 (one_ints _ _) (by unfold maxLen; omega) (by omega) hs8 ?_)
      intro v9 w9 hown9 hg9 _
      have hb79 : Below w7.heap.size w7 w9 := (b_alloc w7 _).grown hg9 (b_alloc w7 _).size fun k hk => by simp [Value.ownBlock] at hk; omega
      obtain ⟨A9, c9, rfl, _, _⟩ := own_form hown9
      obtain ⟨n9, hn9e⟩ : ∃ z, z = 2 + n := ⟨_, rfl⟩
      rw [← hn9e] at hown9 ⊢
      have hi9 : Rds w9 (fun b => w7.heap.size ≤ b) A9 (i64s ([(x : Int), (y : Int)] ++ ns)) := by
        have := (own_rds hown9).mono (S' := fun b => w7.heap.size ≤ b) fun b hb => hb.1
        simpa [i64s] using this
      have hor := porder_any _ A9 n9 c9 ([(x : Int), (y : Int)] ++ ns) k s w9 HSS.out (by rw [List.length_append, HN.out, hn9e]; rfl) hi9 (by omega)
      have HOR := Lib.hid hor
      have HN9E := Lib.hid hn9e
      have hB9 := hB7.new hb79
      have hR9 := hR7.new hb79
      have hb09 := below_new hb07 hb79
      have hs9 := hb79.size
      clear hor hn9e hi9 hown hown9 hg9 hr7 hr8 hs8 hnl hb79 hb07 hR7 hB7 hi0 hz0 hz1 hz2
      go_wp2_with fail
      refine HOR.out.mono ?_
      rintro e w10 ⟨A10, N10, c10, rfl, hN10, hR10, hb10⟩
      have HN10 := Lib.hid hN10
      have hB10 := hB9.new hb10
      have hR10' := hR9.new hb10
      have hb010 := below_new hb09 hb10
      have hs10 := hb10.size
      have hRA : Rds w10 (fun b => w5.heap.size < b) A10 (i64s (zi (R.all ([(x : Int), (y : Int)] ++ ns) k s))) := hR10.mono fun b hb => by rcases hb with hb | hb <;> omega
      have hnd := R.all_nodup (ns := [(x : Int), (y : Int)] ++ ns) (k := k) (s := s)
      have hmem : ∀ m ∈ R.all ([(x : Int), (y : Int)] ++ ns) k s, m < 8 := fun m hm => (R.mem_all.1 hm).1
      obtain ⟨L, hL⟩ : ∃ L, L = R.all ([(x : Int), (y : Int)] ++ ns) k s := ⟨_, rfl⟩
      rw [← hL] at hRA HN10 HPQ hnd hmem
      have hll : N10 ≤ 8 := by rw [HN10.out, hL]; exact R.all_len
      have HND := Lib.hid hnd
      have HMM := Lib.hid hmem
      clear hN10 hR10 hb09 hb10 hR9 hB9 hnd hmem hL HOR
      go_wp2_with fail
      go_loopw [59] (fun iv wr => ∃ i : Nat, iv = .int .i64 i ∧ i ≤ N10 ∧ Blo wr w5.heap.size 38 (nv8 (R.pos (L.take i))) ∧ w10.grownBy wr (some w5.heap.size)) (fun iv _ => N10 - (intOf iv).toNat)
      case atStart => exact ⟨0, rfl, by omega, by have h : R.pos (L.take 0) = fun _ => 0 := by funext m; simp [R.pos]
                                                  rw [h]; exact hB10, World.grownBy.refl _ _⟩
      case round =>
        obtain ⟨i, rfl, hi, hB, hg⟩ := hrel
        have hRr := hRA.grown hg (fun b hb _ e => by injection e with e; omega)
        by_cases hlt' : i < N10
        · have hiN : (i : Int) < (N10 : Int) := by omega
          have hil : i < L.length := by rw [← HN10.out]; exact hlt'
          obtain ⟨ad, rfl, hc⟩ := zi_at hRr hil
          have hm8 : L[i] < 8 := HMM.out _ (List.getElem_mem hil)
          have HP : Hid (nv8 (fun j => if j = L[i] then (i : Int) + 1 else R.pos (L.take i) j) = nv8 (R.pos (L.take (i + 1)))) := Lib.hid (by
            have hni : L[i] ∉ L.take i := fun h => by
              obtain ⟨j, hj, e⟩ := List.mem_iff_getElem.1 h
              rw [List.getElem_take] at e
              have hji : j < i := by rw [List.length_take] at hj; omega
              have := (List.pairwise_iff_getElem.1 HND.out) j i (by omega) hil hji
              exact this e
            have e : (fun j => if j = L[i] then (i : Int) + 1 else R.pos (L.take i) j) = R.pos (L.take (i + 1)) := by
              funext j
              rw [List.take_succ_eq_append_getElem hil, R.pos_snoc hni]
              have : (L.take i).length = i := by rw [List.length_take]; omega
              rw [this]
            rw [e])
          have hpb := R.pos_bd (L.take i)
          generalize L[i] = m at *
          generalize R.pos (L.take i) = U at *
          have y0 : wr.cell? ⟨w5.heap.size, m, none⟩ = some (.int .i64 (U m)) := by rw [hB.cell m, nv8_at U hm8]
          have f0 := hB.frozen m
          have hm0 : 0 ≤ (m : Int) ∧ (m : Int) < 8 := by omega
          have hmN : ((m : Int)).toNat = m := Int.toNat_natCast m
          have e1 : IntKind.i64.wrap ((i : Int) + 1) = (i : Int) + 1 := IntWalk.i64_in _ (by omega)
          have hB2 := hB.put m (.int .i64 ((i : Int) + 1))
          rw [nv8_put U hm8, HP.out] at hB2
          have hg2 : wr.grownBy (wr.setCell ⟨w5.heap.size, m, none⟩ (.int .i64 ((i : Int) + 1))) (some w5.heap.size) := gb_set (World.grownBy.refl _ _) (.inl rfl) _
          have hg3 := gb_trans hg hg2
          clear hB hg hg2 hpb HP hRr
          go_wp2
          go_roundw
          case rel => exact ⟨i + 1, by go_num, by omega, hB2, hg3⟩
          case measure => simp [intOf]; omega
        · obtain rfl : i = N10 := by omega
          have hiN : ¬ (i : Int) < (i : Int) := by omega
          have hLi : L.take i = L := List.take_of_length_le (by rw [← HN10.out]; exact Nat.le_refl _)
          rw [hLi] at hB
          have hpb := HPQ.out
          generalize R.pos L = U at *
          have yp : wr.cell? ⟨w5.heap.size, p, none⟩ = some (.int .i64 (U p)) := by rw [hB.cell p, nv8_at U hp8]
          have yq : wr.cell? ⟨w5.heap.size, q, none⟩ = some (.int .i64 (U q)) := by rw [hB.cell q, nv8_at U hq8]
          have hR5r := hR10'.grown hg (fun b hb _ e => by injection e with e; have := hb.2; omega)
          obtain ⟨ad, rfl, hc0⟩ := zi_at hR5r (i := 0) (by simp)
          obtain ⟨ad', had, hc1⟩ := zi_at hR5r (i := 1) (by simp)
          injection had with had
          subst had
          simp only [List.getElem_cons_zero, List.getElem_cons_succ] at hc0 hc1
          have ead : ad.add 0 = ad := rfl
          rw [ead] at hc0
          have hc1b : wr.cell? ⟨ad.block, ad.off + 1, none⟩ = some (.int .i64 (q : Int)) := hc1
          have hp0 : 0 ≤ (p : Int) ∧ (p : Int) < 8 := by omega
          have hpN : ((p : Int)).toNat = p := Int.toNat_natCast p
          have hq0 : 0 ≤ (q : Int) ∧ (q : Int) < 8 := by omega
          have hqN : ((q : Int)).toNat = q := Int.toNat_natCast q
          obtain ⟨g1, g2⟩ := hpb
          have hbf := hb010.grown hg hb010.size (fun k hk => by injection hk with hk; omega)
          generalize U p = up at *
          generalize U q = uq at *
          have g1' : decide (0 < up) = true := by simpa using g1
          have g2' : decide (up < uq) = true := by simpa using g2
          clear hB hRr hR5r ead HPQ HND HMM hg g1 g2
          go_wp2_with fail
          go_quiet (fail)
          obtain ⟨W, hd2, hW⟩ : ∃ W, Drew wr W ∧ wr.drewN nq = W := ⟨_, (Drew.refl _).more nq, rfl⟩
          rw [hW]
          have hbf2 := below_new hbf (hd2.below _)
          go_wp2
          go_ret
          exact ⟨rfl, hbf2⟩
end Go.Proofs.Ytdgmbopdommnhaa
