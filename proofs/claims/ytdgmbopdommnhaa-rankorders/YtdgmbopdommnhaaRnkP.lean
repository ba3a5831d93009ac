/- Layer 12, the program's: the nodes, the heaviest first; who owns a workload; what each owns. -/
import Derived.Test.YtdgmbopdommnhaaRnkShr
import Derived.Test.YtdgmbopdommnhaaRkP2
namespace Go.Proofs.Ytdgmbopdommnhaa
set_option linter.unusedVariables false
set_option linter.unusedSimpArgs false
open Go.ChangeShapes Go.WideShapes Go.ChangeAt Go.RowKit

/-- A call answers these nodes, in a row of its own, or where what it was handed lies (T). -/
def POrdPost (T : Nat → Prop) (l : List Nat) (w : World) (e : Ending) (w' : World) : Prop :=
  ∃ (A : Option Addr) (N c : Nat), e = .returned (.slice A N c) ∧ N = l.length ∧ Rds w' (fun b => w.heap.size ≤ b ∨ T b) A (i64s (zi l)) ∧ Below w.heap.size w w'
/-- A call answers what each node owns, in whatever rows. -/
def PShPost (ns : List Int) (s : Nat) (w : World) (e : Ending) (w' : World) : Prop :=
  ∃ V : Nat → Value, e = .returned (.agg (sv8 V)) ∧ (∀ i, i < 8 → ∃ A N c, V i = .slice A N c ∧ N = (R.shr ns s i 8).length ∧ Rds w' (fun _ => True) A (i64s (zi (R.shr ns s i 8)))) ∧ Below w.heap.size w w'
/-- The nodes as numbers below eight. -/
def R.hereF (ns : List Int) : List (Fin 8) := (List.finRange 8).filter (fun x => R.has ns x.val)
theorem R.hereF_val (ns : List Int) : (R.hereF ns).map Fin.val = R.here ns 8 := by
  unfold R.hereF R.here
  have e : List.range 8 = (List.finRange 8).map Fin.val := by decide
  rw [e, List.filter_map]
  rfl
theorem ivs_zi (l : List (Fin 8)) : ivs l = i64s (zi (l.map Fin.val)) := by simp [ivs, vI, i64s, zi]
theorem isort_val (p : Rk.Cap) (h8 : p.n = 8) (ns : List Int) (l : List (Fin p.n)) (hl : l.map Fin.val = R.here ns 8) : (P.isort (Rk.ltI p) l).map Fin.val = R.all ns p.k p.s := by
  unfold R.all
  rw [← hl, isort_map Fin.val (lt := Rk.ltI p) (lt' := R.lt p.k p.s) (fun a b => rfl)]
set_option maxRecDepth 100000 in
set_option maxHeartbeats 4000000 in
theorem heaviest_any (S : Nat → Prop) (A : Option Addr) (n c : Nat) (ns : List Int) (k : Int) (s gk gs : Nat) (w : World) (hs : s < 18446744073709551616) (hn : ns.length = n) (hr : Rds w S A (i64s ns)) (hl : n ≤ 900000) (hk : Blo w gk 3 #[.int .i64 k]) (hsl : Blo w gs 23 #[.int .u64 (s : Int)]) :
    Calls Try.prog 15 #[.slice A n c, .func (.func 16) #[] #[.pointer (some ⟨gk, 0, none⟩), .pointer (some ⟨gs, 0, none⟩)]] w (OrdPost (R.all ns k s) w) := by
  obtain ⟨w1, hw1⟩ : ∃ W, w.alloc (.cells #[.func (.func 16) #[] #[.pointer (some ⟨gk, 0, none⟩), .pointer (some ⟨gs, 0, none⟩)]] 45) = W := ⟨_, rfl⟩
  have hb1 : Below w.heap.size w w1 := by rw [← hw1]; exact b_alloc _ _
  have hz1 : w1.heap.size = w.heap.size + 1 := by rw [← hw1]; simp
  obtain ⟨p, hp⟩ : ∃ p : Rk.Cap, p = ⟨w.heap.size, gk, gs, 8, k, s, hs⟩ := ⟨_, rfl⟩
  have hC1 : Rk.CmpAt w1 p := by
    rw [hp]
    exact ⟨by rw [← hw1]; exact Blo.made _ _ _, hk.new hb1, hsl.new hb1⟩
  have hkl := hk.lt
  have hsl' := hsl.lt
  have HO : Hid (∀ g, w1.heap.size ≤ g → p.off g) := Lib.hid (fun g hg => by
    rw [hp]
    refine ⟨?_, ?_, ?_⟩
    · show w.heap.size ≠ g; omega
    · show gk ≠ g; omega
    · show gs ≠ g; omega)
  have HP8 : Hid (p.n = 8) := Lib.hid (by rw [hp])
  have HPV : Hid (∀ l : List (Fin p.n), l.map Fin.val = R.here ns 8 → (P.isort (Rk.ltI p) l).map Fin.val = R.all ns k s) := Lib.hid (fun l h => by
    have h1 := isort_val p HP8.out ns l h
    rw [h1, hp])
  have HPL : Hid (∃ l : List (Fin p.n), l.map Fin.val = R.here ns 8) := Lib.hid (by rw [hp]; exact ⟨R.hereF ns, R.hereF_val ns⟩)
  have HCV : Hid (Rk.cmpV p = .func (.func 21) #[] #[.pointer (some ⟨w.heap.size, 0, none⟩)]) := Lib.hid (by rw [hp])
  have HK := Lib.hid (Rk.known_any S A n c ns w1 hn (hr.new hb1) hl)
  have HW1 := Lib.hid hw1
  clear hw1 hp hk hsl hn hr
  go_enter Try.func15, Try.ntmps15
  go_wp2_with fail
  try rw [HW1.out]
  refine HK.out.mono ?_
  rintro e w2 ⟨A2, N2, c2, rfl, hN2, hO2, hb2⟩
  have hC2 := hC1.new hb2
  have hb02 := below_new hb1 hb2
  obtain ⟨ps, hps⟩ := HPL.out
  have HPS := Lib.hid hps
  have hN8 : N2 ≤ 8 := by rw [hN2]; exact R.here_len 8
  have HNP : Hid (ps.length = N2) := Lib.hid (by rw [hN2, ← hps, List.length_map])
  have HIS : Hid (ivs ps = i64s (zi (R.here ns 8))) := Lib.hid (by simp [ivs, vI, i64s, zi, ← hps])
  have HAL : Hid (ivs (P.isort (Rk.ltI p) ps) = i64s (zi (R.all ns k s))) := Lib.hid (by simp [ivs, vI, i64s, zi, ← HPV.out ps hps])
  have HLA : Hid ((R.all ns k s).length = N2) := Lib.hid (by rw [← HPV.out ps hps, List.length_map, P.isort_len]; exact HNP.out)
  have hI2 : IRow w2 w1.heap.size (.slice A2 N2 c2) ps := by
    unfold IRow
    rw [HIS.out, HNP.out]
    exact hO2
  clear hps hN2 hO2 HK HPL HPV hC1
  by_cases h0 : N2 = 0
  · subst h0
    have HS := Lib.hid (Rk.sortstable_none c2 p A2 w2)
    rw [HCV.out] at HS
    have HR : Hid (Rds w2 (fun b => w.heap.size ≤ b) A2 (i64s (zi (R.all ns k s)))) := Lib.hid (by
      have e : R.all ns k s = [] := List.eq_nil_of_length_eq_zero HLA.out
      rw [e]
      intro j u hu
      simp [i64s, zi] at hu)
    clear hI2 hC2
    go_wp2_with fail
    refine HS.out.mono ?_
    rintro e w3 ⟨rfl, rfl⟩
    go_wp2
    go_ret
    exact ⟨A2, 0, c2, rfl, HLA.out.symm, HR.out, hb02⟩
  · obtain ⟨g, rfl, hgB, hS2⟩ := hI2.srow h0
    have HS := Lib.hid (Rk.sortstable_any g N2 c2 p ps w2 HNP.out hS2 hC2 (HO.out g hgB) (by omega))
    rw [HCV.out] at HS
    have hgw : w.heap.size ≤ g := by omega
    clear hI2 hC2 hS2
    go_wp2_with fail
    refine HS.out.mono ?_
    rintro e w3 ⟨rfl, l3, hS3, rfl, hg3⟩
    have hb3 := hb02.grown hg3 hb02.size (fun k hk => by injection hk with hk; omega)
    have HR : Hid (Rds w3 (fun b => w.heap.size ≤ b) (some ⟨g, 0, none⟩) (i64s (zi (R.all ns k s)))) := Lib.hid (by
      rw [← HAL.out]
      exact hS3.rds.mono (fun b hb => by omega))
    clear hS3 hg3 HS
    go_wp2
    go_ret
    exact ⟨_, N2, c2, rfl, HLA.out.symm, HR.out, hb3⟩
set_option maxRecDepth 100000 in
set_option maxHeartbeats 4000000 in
theorem porder_any (S : Nat → Prop) (A : Option Addr) (n c : Nat) (ns : List Int) (k : Int) (s : Nat) (w : World) (hs : s < 18446744073709551616) (hn : ns.length = n) (hr : Rds w S A (i64s ns)) (hl : n ≤ 900000) :
    Calls Try.prog 11 #[.slice A n c, .int .i64 k, .int .u64 (s : Int)] w (POrdPost S (R.all ns k s) w) := by
  obtain ⟨w1, hw1⟩ : ∃ W, (w.alloc (.cells #[.int .i64 k] 3)).alloc (.cells #[.int .u64 (s : Int)] 23) = W := ⟨_, rfl⟩
  have hb1 : Below w.heap.size w w1 := by rw [← hw1]; exact b_alloc2 _ _ _
  have hk : Blo w1 w.heap.size 3 #[.int .i64 k] := by rw [← hw1]; exact (Blo.made _ _ _).alloc _
  have hsl : Blo w1 (w.heap.size + 1) 23 #[.int .u64 (s : Int)] := by
    rw [← hw1]
    have := Blo.made (w.alloc (.cells #[.int .i64 k] 3)) 23 #[.int .u64 (s : Int)]
    simpa using this
  have H := Lib.hid (heaviest_any S A n c ns k s w.heap.size (w.heap.size + 1) w1 hs hn (hr.new hb1) hl hk hsl)
  have HW1 := Lib.hid hw1
  clear hs hn hr hw1 hk hsl
  go_enter Try.func11, Try.ntmps11
  go_wp2_with fail
  try rw [HW1.out]
  refine H.out.mono ?_
  rintro e w2 ⟨A2, N2, c2, rfl, hN, hR, hb⟩
  have hb02 := below_new hb1 hb
  have hbs := hb1.size
  have HP : Hid (POrdPost S (R.all ns k s) w (.returned (.slice A2 N2 c2)) w2) := Lib.hid ⟨A2, N2, c2, rfl, hN, hR.mono fun _ h => .inl (by omega), hb02⟩
  clear hN hR hb H
  go_wp2
  go_ret
  exact HP.out
set_option maxRecDepth 100000 in
set_option maxHeartbeats 4000000 in
theorem powner_any (S : Nat → Prop) (A : Option Addr) (n c : Nat) (ns : List Int) (k : Int) (s : Nat) (w : World) (hs : s < 18446744073709551616) (hn : ns.length = n) (hr : Rds w S A (i64s ns)) (hl : n ≤ 900000) :
    Calls Try.prog 8 #[.slice A n c, .int .i64 k, .int .u64 (s : Int)] w fun e w' => e = .returned (.tuple #[.int .i64 (R.own ns k s), .int .i64 (R.oer ns k s)]) ∧ Below w.heap.size w w' := by
  have HO := Lib.hid (porder_any S A n c ns k s w hs hn hr hl)
  clear hs hn hr
  go_enter Try.func8, Try.ntmps8
  go_wp2_with fail
  refine HO.out.mono ?_
  rintro e w1 ⟨A1, N1, c1, rfl, hN1, hR1, hb1⟩
  cases ha : R.all ns k s with
  | nil =>
    have HV := Lib.hid (R.own_nil ha)
    rw [ha] at hN1
    have : N1 = 0 := hN1
    subst this
    clear ha hN1 HO
    go_wp2
    go_ret2
    rw [HV.out.1, HV.out.2]
    exact ⟨rfl, hb1⟩
  | cons a r =>
    have HV := Lib.hid (R.own_cons ha)
    rw [ha] at hN1 hR1
    have hN0 : ((N1 : Int) == 0) = false := by simp at hN1 ⊢; omega
    have hN2 : (0 : Int) < (N1 : Int) := by simp at hN1; omega
    have hN3 : ¬ (N1 : Int) = 0 := by omega
    obtain ⟨ad, rfl, hc⟩ := zi_at hR1 (i := 0) (by simp)
    simp only [List.getElem_cons_zero] at hc
    have ead : ad.add 0 = ad := rfl
    rw [ead] at hc
    clear ha hN1 HO hR1 ead
    go_wp2
    go_ret2
    rw [HV.out.1, HV.out.2]
    exact ⟨rfl, hb1⟩

set_option maxRecDepth 100000 in
set_option maxHeartbeats 8000000 in
theorem pshare_any (S : Nat → Prop) (A : Option Addr) (n c : Nat) (ns : List Int) (s : Nat) (w : World) (hs : s < 18446744073709551616) (hn : ns.length = n) (hr : Rds w S A (i64s ns)) (hl : n ≤ 900000) :
    Calls Try.prog 13 #[.slice A n c, .int .u64 (s : Int)] w (PShPost ns s w) := by
  have HO := Lib.hid (fun (j : Nat) W (h : Below w.heap.size w W) => powner_any S A n c ns (j : Int) s W hs hn (hr.new h) hl)
  clear hs hn hr
  obtain ⟨i0, hi0, hz0, hz1, hz2⟩ := info_parts Try.rowIntK
  have HI := Lib.hid hi0
  have HZ := Lib.hid (And.intro hz0 (And.intro hz1 hz2))
  clear hi0 hz0 hz1 hz2
  obtain ⟨w1, hw1⟩ : ∃ W, (w.alloc (.cells (sv8 fun _ => .slice none 0 0) 32)).alloc (.cells (sv8 fun _ => .slice none 0 0) 32) = W := ⟨_, rfl⟩
  have hb1 : Below w.heap.size w w1 := by rw [← hw1]; exact b_alloc2 _ _ _
  have hz1 : w1.heap.size = w.heap.size + 2 := by rw [← hw1]; simp
  have hR1 : Blo w1 w.heap.size 32 (sv8 fun _ => .slice none 0 0) := by rw [← hw1]; exact (Blo.made _ _ _).alloc _
  have hX1 : Blo w1 (w.heap.size + 1) 32 (sv8 fun _ => .slice none 0 0) := by
    rw [← hw1]
    have := Blo.made (w.alloc (.cells (sv8 fun _ => .slice none 0 0) 32)) 32 (sv8 fun _ => .slice none 0 0)
    simpa using this
  have HST := ShI.start ns s w1.heap.size (w.heap.size + 1) w1 hX1
  have HW1 := Lib.hid hw1
  have HZ1 := Lib.hid hz1
  clear hw1 hz1 hX1
  go_enter Try.func13, Try.ntmps13
  go_wp2_with fail
  rw [HW1.out]
  go_loopw [9] (fun jv wr => ∃ (j : Nat) (V : Nat → Value), jv = .int .i64 j ∧ j ≤ 8 ∧ ShI ns s j w1.heap.size (w.heap.size + 1) V wr ∧ Blo wr w.heap.size 32 (sv8 fun _ => .slice none 0 0) ∧ Below w.heap.size w wr ∧ w1.heap.size ≤ wr.heap.size) (fun jv _ => 8 - (intOf jv).toNat)
  case atStart => exact ⟨0, _, rfl, by omega, HST, hR1, hb1, Nat.le_refl _⟩
  case round =>
    clear HST hR1 hb1
    obtain ⟨j, V, rfl, hj, hI, hR, hb, hb1⟩ := hrel
    by_cases hlt : j < 8
    · have hj8 : (j : Int) < 8 := by omega
      have HOj := Lib.hid (HO.out j wr hb)
      cases hd : (R.all ns (j : Int) s).head? with
      | none =>
        rw [(R.oer_none hd).1, (R.oer_none hd).2] at HOj
        have HI2 : Hid (ShI ns s (j + 1) w1.heap.size (w.heap.size + 1) V wr) := Lib.hid (hI.none_ hd)
        clear hd hI
        go_wp2_with fail
        refine HOj.out.mono ?_
        rintro e w2 ⟨rfl, hb2⟩
        have hI2 := HI2.out.new hb2
        have hR2 := hR.new hb2
        have hb02 := below_new hb hb2
        have hb12 := Nat.le_trans hb1 hb2.size
        clear HOj hb hb1 hb2 hR HI2
        go_wp2
        go_roundw
        case rel => exact ⟨j + 1, V, by go_num, by omega, hI2, hR2, hb02, hb12⟩
        case measure => simp [intOf]; omega
      | some a =>
        have ha : a < 8 := R.own_lt hd
        rw [(R.oer_some hd).1, (R.oer_some hd).2] at HOj
        have HD := Lib.hid hd
        clear hd
        go_wp2_with fail
        refine HOj.out.mono ?_
        rintro e w2 ⟨rfl, hb2⟩
        have hI2 := hI.new hb2
        have hR2 := hR.new hb2
        have hb02 := below_new hb hb2
        have hb12 := Nat.le_trans hb1 hb2.size
        clear HOj hb hb1 hb2 hR hI
        obtain ⟨Aa, Na, ca, hVa, hNa, hrow⟩ := hI2.row a ha
        have hNl : Na ≤ 8 := by rw [hNa]; have := R.shr_len (ns := ns) (s := s) a j; omega
        have y0 : w2.cell? ⟨w.heap.size + 1, a, none⟩ = some (.slice Aa Na ca) := by rw [hI2.blo.cell a, sv8_at V ha, hVa]
        have HVA := Lib.hid hVa
        have HNA := Lib.hid hNa
        clear hVa hNa
        have ha0 : 0 ≤ (a : Int) ∧ (a : Int) < 8 := by omega
        have haN : ((a : Int)).toNat = a := Int.toNat_natCast a
        obtain ⟨w3, hw3⟩ : ∃ W, w2.alloc (.cells #[.int .i64 j] 3) = W := ⟨_, rfl⟩
        have hb3 : Below w2.heap.size w2 w3 := by rw [← hw3]; exact b_alloc _ _
        have hI3 := hI2.new hb3
        have hR3 := hR2.new hb3
        have hrow3 := own_newI hrow hb3
        have hlit : Rds w3 (fun _ => True) (some ⟨w2.heap.size, 0, none⟩) (i64s [(j : Int)]) := by rw [← hw3]; exact one_rds w2 .i64 (j : Int) 3
        have hb03 := below_new hb02 hb3
        have hb13 := Nat.le_trans hb12 hb3.size
        have hs13 := hb13
        have HW3 := Lib.hid hw3
        rw [← hw3] at hrow3 hlit hs13
        clear hw3 hI2 hR2 hrow hb02 hb12
        go_wp2_with (at_builtin; refine wpList_app _ rfl _ _ 22 rfl w1.heap.size 3 i0 _ 8 Try.underlying22 HI.out HZ.out.1 HZ.out.2.1 HZ.out.2.2 rfl (.slice Aa Na ca) Na _ rfl hrow3 (fun _ => True) _ 1 1 (i64s [(j : Int)]) rfl rfl hlit (one_ints _ _) (by unfold maxLen; omega) (by omega) hs13 ?_)
        intro v4 w4 hrow4 hg4 hv4
        rw [HW3.out] at hg4
        have hz3 : w3.heap.size = w2.heap.size + 1 := by rw [← HW3.out]; simp
        obtain ⟨A4, c4, rfl, _, _⟩ := own_form hrow4
        have hX4 := hI3.blo.grown hg4 (fun e => own_blo hrow3 (by rw [HW3.out]; exact hI3.blo) (by decide) e.symm)
        have hR4 := hR3.grown hg4 (fun e => own_blo hrow3 (by rw [HW3.out]; exact hR3) (by decide) e.symm)
        have y4 : w4.cell? ⟨w.heap.size + 1, a, none⟩ = some (.slice Aa Na ca) := by rw [hX4.cell a, sv8_at V ha, HVA.out]
        have f4 := hX4.frozen a
        have hX5 := hX4.put a (.slice A4 (Na + 1) c4)
        have hgx : w4.grownBy (w4.setCell ⟨w.heap.size + 1, a, none⟩ (.slice A4 (Na + 1) c4)) (some (w.heap.size + 1)) := gb_set (World.grownBy.refl _ _) (.inl rfl) _
        have hR5 := hR4.grown hgx (fun e => by injection e with e; omega)
        obtain ⟨w5, hw5⟩ : ∃ W, w4.setCell ⟨w.heap.size + 1, a, none⟩ (.slice A4 (Na + 1) c4) = W := ⟨_, rfl⟩
        have hz5 : w5.heap.size = w4.heap.size := by rw [← hw5]; simp
        have hother : ∀ b, b ≠ w.heap.size + 1 → w5.heap[b]? = w4.heap[b]? := fun b hb => by rw [← hw5]; exact Below.heap_setCell w4 _ _ b hb
        rw [hw5] at hX5 hR5 hgx
        have hI5 : ShI ns s (j + 1) w1.heap.size (w.heap.size + 1) (upV V a (.slice A4 (Na + 1) c4)) w5 :=
          hI3.more ha HD.out HVA.out (by simpa [i64s] using hrow4) (by rw [HVA.out]; exact hg4) (by rw [HVA.out, hz3]; simpa using hv4) (by rw [HZ1.out]; omega) hz5 hother hX5
        have hb04 : Below w.heap.size w w4 := hb03.grown hg4 hb03.size (fun k hk => by have h1 := (World.ownsRow.lt hrow3 k hk).1; rw [HZ1.out] at h1; omega)
        have hb14 : w1.heap.size ≤ w4.heap.size := Nat.le_trans hb13 hg4.size
        have hb05 := hb04.grown hgx hb04.size (fun k hk => by injection hk with hk; omega)
        have hb15 : w1.heap.size ≤ w5.heap.size := Nat.le_trans hb14 hgx.size
        clear hlit hrow4 hg4 hv4 hX4 hR4 hX5 hgx hb04 hb14 hother hrow3 hI3 hR3 hb03 hb13 hs13
        go_wp2
        go_roundw
        case rel => exact ⟨j + 1, _, by go_num, by omega, hI5, hR5, hb05, hb15⟩
        case measure => simp [intOf]; omega
    · obtain rfl : j = 8 := by omega
      have hj8 : ¬ ((8 : Nat) : Int) < 8 := by omega
      have e0 : wr.cell? ⟨w.heap.size + 1, 0, none⟩ = some (V 0) := by simpa using hI.blo.cell 0
      have e1 : wr.cell? ⟨w.heap.size + 1, 1, none⟩ = some (V 1) := by simpa using hI.blo.cell 1
      have e2 : wr.cell? ⟨w.heap.size + 1, 2, none⟩ = some (V 2) := by simpa using hI.blo.cell 2
      have e3 : wr.cell? ⟨w.heap.size + 1, 3, none⟩ = some (V 3) := by simpa using hI.blo.cell 3
      have e4 : wr.cell? ⟨w.heap.size + 1, 4, none⟩ = some (V 4) := by simpa using hI.blo.cell 4
      have e5 : wr.cell? ⟨w.heap.size + 1, 5, none⟩ = some (V 5) := by simpa using hI.blo.cell 5
      have e6 : wr.cell? ⟨w.heap.size + 1, 6, none⟩ = some (V 6) := by simpa using hI.blo.cell 6
      have e7 : wr.cell? ⟨w.heap.size + 1, 7, none⟩ = some (V 7) := by simpa using hI.blo.cell 7
      have hone : ∀ v ∈ (sv8 V).toList, v.oneCell' = true := fun v hv => by
        have h : ∀ i, i < 8 → (V i).oneCell' = true := fun i hi => by
          obtain ⟨A, N, c, e, _⟩ := hI.row i hi
          rw [e]; rfl
        simp at hv
        rcases hv with rfl | rfl | rfl | rfl | rfl | rfl | rfl | rfl
        · exact h 0 (by omega)
        · exact h 1 (by omega)
        · exact h 2 (by omega)
        · exact h 3 (by omega)
        · exact h 4 (by omega)
        · exact h 5 (by omega)
        · exact h 6 (by omega)
        · exact h 7 (by omega)
      go_wp2_with (refine wpList_setb _ rfl 32 _ _ rfl w.heap.size _ (sv8 V) rfl rfl hR (by kernel_rfl) rfl hone ?_)
      intro w2 hR2 hg2
      have hb2 := hb.grown hg2 hb.size (fun k hk => by injection hk with hk; omega)
      have hrows : ∀ i, i < 8 → ∃ A N c, V i = .slice A N c ∧ N = (R.shr ns s i 8).length ∧ Rds w2 (fun b => w.heap.size ≤ b) A (i64s (zi (R.shr ns s i 8))) := fun i hi => by
        obtain ⟨A, N, c, e, l, r⟩ := hI.row i hi
        exact ⟨A, N, c, e, l, ((own_rds r).grown hg2 (fun b hb _ h => by injection h with h; have h1 := hb.1; rw [HZ1.out] at h1; omega)).mono fun b hb => by have h1 := hb.1; rw [HZ1.out] at h1; omega⟩
      have HRW := Lib.hid hrows
      clear hrows e0 e1 e2 e3 e4 e5 e6 e7 hone hI hR
      have e0 : w2.cell? ⟨w.heap.size, 0, none⟩ = some (V 0) := by simpa using hR2.cell 0
      have e1 : w2.cell? ⟨w.heap.size, 1, none⟩ = some (V 1) := by simpa using hR2.cell 1
      have e2 : w2.cell? ⟨w.heap.size, 2, none⟩ = some (V 2) := by simpa using hR2.cell 2
      have e3 : w2.cell? ⟨w.heap.size, 3, none⟩ = some (V 3) := by simpa using hR2.cell 3
      have e4 : w2.cell? ⟨w.heap.size, 4, none⟩ = some (V 4) := by simpa using hR2.cell 4
      have e5 : w2.cell? ⟨w.heap.size, 5, none⟩ = some (V 5) := by simpa using hR2.cell 5
      have e6 : w2.cell? ⟨w.heap.size, 6, none⟩ = some (V 6) := by simpa using hR2.cell 6
      have e7 : w2.cell? ⟨w.heap.size, 7, none⟩ = some (V 7) := by simpa using hR2.cell 7
      go_wp2
      refine bodyPost_ret (v := .agg (sv8 V)) ?_ rfl ?_
      · simp [results, Try.results13, go_sem, e0, e1, e2, e3, e4, e5, e6, e7]
      · exact ⟨V, rfl, fun i hi => by
          obtain ⟨A, N, c, e, l, r⟩ := HRW.out i hi
          exact ⟨A, N, c, e, l, r.mono fun _ _ => trivial⟩, hb2⟩
end Go.Proofs.Ytdgmbopdommnhaa
