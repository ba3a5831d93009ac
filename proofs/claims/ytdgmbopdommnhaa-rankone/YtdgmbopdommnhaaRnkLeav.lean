/- Layer 12: what RankLeaves comes to. -/
import Derived.Test.YtdgmbopdommnhaaRnkOne
namespace Go.Proofs.Ytdgmbopdommnhaa
set_option linter.unusedVariables false
set_option linter.unusedSimpArgs false
open Go.ChangeShapes Go.WideShapes Go.ChangeAt Go.RowKit

/-! ### a node goes -/
def R.rest (g : Nat) (ns : List Int) : List Int := ns.filter (fun x => decide (x ≠ (g : Int)))
def R.left (g : Nat) (L : List Nat) : List Nat := L.filter (fun n => decide (n ≠ g))
theorem R.rest_take {g : Nat} {ns : List Int} {i : Nat} (h : i < ns.length) : R.rest g (ns.take (i + 1)) = R.rest g (ns.take i) ++ if ns[i] ≠ (g : Int) then [ns[i]] else [] := by
  unfold R.rest
  rw [List.take_succ_eq_append_getElem h, List.filter_append]
  by_cases hx : ns[i] = (g : Int) <;> simp [hx]
theorem R.left_take {g : Nat} {L : List Nat} {i : Nat} (h : i < L.length) : R.left g (L.take (i + 1)) = R.left g (L.take i) ++ if L[i] ≠ g then [L[i]] else [] := by
  unfold R.left
  rw [List.take_succ_eq_append_getElem h, List.filter_append]
  by_cases hx : L[i] = g <;> simp [hx]
theorem R.rest_le (g : Nat) (ns : List Int) : (R.rest g ns).length ≤ ns.length := List.length_filter_le _ _
theorem R.left_le (g : Nat) (L : List Nat) : (R.left g L).length ≤ L.length := List.length_filter_le _ _
theorem R.all_rest (g : Nat) (ns : List Int) (k : Int) (s : Nat) : R.all (R.rest g ns) k s = R.left g (R.all ns k s) := R.all_filter _ fun n hn => by
  unfold R.rest
  simp only [List.mem_filter, decide_eq_true_eq]
  constructor
  · rintro ⟨h1, h2⟩
    exact ⟨h1, by omega⟩
  · rintro ⟨h1, h2⟩
    exact ⟨h1, by omega⟩
theorem R.all_rev (ns : List Int) (k : Int) (s : Nat) : R.all ns.reverse k s = R.all ns k s := R.all_same fun n hn => by simp
/-- What is left of who goes first. -/
theorem R.left_cons {g : Nat} {t : List Nat} (h : (g :: t).Nodup) : R.left g (g :: t) = t := by
  unfold R.left
  rw [List.filter_cons_of_neg (by simp), List.filter_eq_self]
  intro x hx
  have := (List.nodup_cons.1 h).1
  simp only [decide_eq_true_eq]
  intro e
  exact this (e ▸ hx)
theorem R.left_cons_ne {g h : Nat} {t : List Nat} (hg : h ≠ g) : R.left g (h :: t) = h :: R.left g t := by
  unfold R.left
  rw [List.filter_cons_of_pos (by simpa using hg)]
abbrev gnV (A : Option Addr) (n c : Nat) (k : Int) (s : Nat) (a : Int) : Array Value := #[.slice A n c, .int .i64 k, .int .u64 (s : Int), .int .u8 a]

set_option maxRecDepth 100000 in
set_option maxHeartbeats 8000000 in
theorem rnkleaves_main (S : Nat → Prop) (A : Option Addr) (n c : Nat) (ns : List Int) (k : Int) (s : Nat) (a : Nat) (w : World) (hs : s < 18446744073709551616) (ha : a < 256) (hn : ns.length = n) (hr : Rds w S A (i64s ns)) :
    Calls Try.prog 4 #[.agg (gnV A n c k s a)] w fun e w' => e = .returned (.bool true) ∧ Below w.heap.size w w' := by
  obtain ⟨w1, hw1⟩ : ∃ W, w.alloc (.cells (gnV A n c k s a) 36) = W := ⟨_, rfl⟩
  have hb1 : Below w.heap.size w w1 := by rw [← hw1]; exact b_alloc _ _
  have hX1 : Blo w1 w.heap.size 36 (gnV A n c k s a) := by rw [← hw1]; exact Blo.made _ _ _
  have HW1 := Lib.hid hw1
  have HSS := Lib.hid hs
  have HN := Lib.hid hn
  clear hw1 hs hn
  obtain ⟨i0, hi0, hz0, hz1, hz2⟩ := info_parts Try.rowIntK
  have HI := Lib.hid hi0
  have HZ := Lib.hid (And.intro hz0 (And.intro hz1 hz2))
  clear hi0 hz0 hz1 hz2
  go_enter Try.func4, Try.ntmps4
  go_wp2_with fail
  refine (rnkalive_any _).mono ?_
  rintro e w2 ⟨rfl, hb2⟩
  rw [HW1.out] at hb2
  have hb02 := below_new hb1 hb2
  have hX2 := hX1.new hb2
  have hr2 := hr.new hb02
  have x0 : w2.cell? ⟨w.heap.size, 0, none⟩ = some (.slice A n c) := by simpa using hX2.cell 0
  have x1 : w2.cell? ⟨w.heap.size, 1, none⟩ = some (.int .i64 k) := by simpa using hX2.cell 1
  have x2 : w2.cell? ⟨w.heap.size, 2, none⟩ = some (.int .u64 (s : Int)) := by simpa using hX2.cell 2
  have x3 : w2.cell? ⟨w.heap.size, 3, none⟩ = some (.int .u8 (a : Int)) := by simpa using hX2.cell 3
  clear hb1 hb2 hX1 hX2 hr
  go_wp2_with fail
  go_quiet (fail)
  obtain ⟨w3, hd, hW⟩ : ∃ W, Drew w2 W ∧ w2.drewN nq = W := ⟨_, (Drew.refl _).more nq, rfl⟩
  rw [hW]
  have hr3 := (hd.rds hr2).old
  have hb03 := below_new hb02 (hd.below _)
  clear x0 x1 x2 x3 hW hd hr2 hb02
  by_cases hl : 200 < n
  · have hl' : (200 : Int) < (n : Int) := by omega
    go_wp2
    go_ret
    exact ⟨rfl, hb03⟩
  · have hl' : ¬ (200 : Int) < (n : Int) := by omega
    obtain ⟨g, hg⟩ : ∃ g, g = a % 8 := ⟨_, rfl⟩
    have hg8 : g < 8 := by omega
    have eg : (a : Int) % 8 = (g : Int) := by omega
    clear hg
    go_wp2_with fail
    go_loopw [8, 9, 38] (fun rv tv iv wr => ∃ (i : Nat) (Ar : Option Addr) (Nr cr : Nat) (At : Option Addr) (ct : Nat), iv = .int .i64 i ∧ i ≤ n ∧ rv = .slice Ar Nr cr ∧ tv = .slice At i ct ∧ Hid ((R.rest g (ns.take i)).length = Nr) ∧ Nr ≤ i ∧ wr.ownsRow w3.heap.size 3 1 (.slice Ar Nr cr) Nr (i64s (R.rest g (ns.take i))) ∧ Rds wr (fun b => w3.heap.size ≤ b ∧ some b ≠ (Value.slice Ar Nr cr).ownBlock) At (i64s (ns.take i).reverse) ∧ Below w3.heap.size w3 wr) (fun _ _ iv _ => n - (intOf iv).toNat)
    case atStart => exact ⟨0, none, 0, 0, none, 0, rfl, by omega, rfl, rfl, Lib.hid (by simp [R.rest]), by omega, World.ownsRow_nil _ _ _ _, Rds.nil, Below.refl _ _⟩
    case round =>
      obtain ⟨i, Ar, Nr, cr, At, ct, rfl, hi, rfl, rfl, HRL, hNr, hO, hT, hb⟩ := hrel
      by_cases hlt : i < n
      · have hiN : (i : Int) < (n : Int) := by omega
        have hil : i < ns.length := by rw [HN.out]; exact hlt
        obtain ⟨ad, rfl, _, hc⟩ := (hr3.new hb) i (.int .i64 ns[i]) (by simp [i64s, List.getElem?_eq_getElem hil])
        have HRT := Lib.hid (R.rest_take (g := g) hil)
        have HTT : Hid ((ns.take (i + 1)).reverse = ns[i] :: (ns.take i).reverse) := Lib.hid (by rw [List.take_succ_eq_append_getElem hil]; simp)
        have HTL : Hid ((i64s (ns.take i).reverse).length = i) := Lib.hid (by rw [i64s_len, List.length_reverse, List.length_take]; omega)
        generalize ns[i] = x at *
        by_cases hx : x = (g : Int)
        · have HR2 : Hid (R.rest g (ns.take (i + 1)) = R.rest g (ns.take i)) := Lib.hid (by rw [HRT.out, if_neg (by simpa using hx), List.append_nil])
          have hne : (x != (g : Int)) = false := by simpa using hx
          obtain ⟨V, hV⟩ : ∃ V, V = wr := ⟨_, rfl⟩
          have hOV := hO
          have hTV := hT
          have hbV := hb
          have hcV := hc
          rw [← hV] at hOV hTV hbV hcV ⊢
          clear hO hT hb hc hx hV HRT
          have hsV := hbV.size
          have hlown : (V.alloc (.cells #[.int .i64 x] 3)).ownsRow V.heap.size 3 1 (.slice (some ⟨V.heap.size, 0, none⟩) 1 1) 1 (i64s [x]) := lit_own V [x] (by simp)
          have hTa := hTV.new (b_alloc V (.cells #[.int .i64 x] 3))
          have hsa : V.heap.size ≤ (V.alloc (.cells #[.int .i64 x] 3)).heap.size := (b_alloc V _).size
          have hltV : ∀ b, (Value.slice Ar Nr cr).ownBlock = some b → w3.heap.size ≤ b ∧ b < V.heap.size := fun b hb => World.ownsRow.lt hOV b hb
          go_wp2_with (at_builtin; refine wpList_app _ rfl _ _ 22 rfl V.heap.size 3 i0 _ 8 Try.underlying22 HI.out HZ.out.1 HZ.out.2.1 HZ.out.2.2 rfl _ 1 _ rfl hlown _ At i ct (i64s (ns.take i).reverse) rfl HTL.out hTa (one_ints _ _) (by unfold maxLen; omega) (by omega) hsa ?_)
          intro v7 w7 hown7 hg7 _
          have hb7 : Below V.heap.size V w7 := (b_alloc V _).grown hg7 (b_alloc V _).size fun k hk => by simp [Value.ownBlock] at hk; omega
          obtain ⟨A7, c7, rfl, _, _⟩ := own_form hown7
          have hT7 : Rds w7 (fun b => w3.heap.size ≤ b ∧ some b ≠ (Value.slice Ar Nr cr).ownBlock) A7 (i64s (ns.take (i + 1)).reverse) := by
            rw [HTT.out]
            have h := (own_rds hown7).mono (S' := fun b => w3.heap.size ≤ b ∧ some b ≠ (Value.slice Ar Nr cr).ownBlock) fun b hb => ⟨by have := hb.1; omega, fun e => by have := (hltV b e.symm).2; have := hb.1; omega⟩
            simpa [i64s] using h
          have hO7 := own_newI hOV hb7
          have hbr7 := below_new hbV hb7
          try rw [show 1 + i = i + 1 by omega]
          clear hown7 hg7 hb7 hlown hTa hsa hTV hOV hbV
          go_wp2
          go_roundw
          case rel => exact ⟨i + 1, Ar, Nr, cr, A7, c7, by go_num, by omega, rfl, rfl, by rw [HR2.out]; exact HRL, by omega, by rw [HR2.out]; exact hO7, hT7, hbr7⟩
          case measure => simp [intOf]; omega
        · have HR2 : Hid (R.rest g (ns.take (i + 1)) = R.rest g (ns.take i) ++ [x]) := Lib.hid (by rw [HRT.out, if_pos hx])
          have hne : (x != (g : Int)) = true := by simpa using hx
          have hlit : Rds (wr.alloc (.cells #[.int .i64 x] 3)) (fun _ => True) (some ⟨wr.heap.size, 0, none⟩) (i64s [x]) := one_rds wr .i64 x 3
          have hOa := own_newI hO (b_alloc wr (.cells #[.int .i64 x] 3))
          have hTa0 := (hT.old).new (b_alloc wr (.cells #[.int .i64 x] 3))
          have hba := below_new hb (b_alloc wr (.cells #[.int .i64 x] 3))
          have hsb := hba.size
          clear hx HRT
          go_wp2_with (at_builtin; refine wpList_app _ rfl _ _ 22 rfl w3.heap.size 3 i0 _ 8 Try.underlying22 HI.out HZ.out.1 HZ.out.2.1 HZ.out.2.2 rfl (.slice Ar Nr cr) Nr _ rfl hOa (fun _ => True) _ 1 1 (i64s [x]) rfl rfl hlit (one_ints _ _) (by unfold maxLen; omega) (by omega) hsb ?_)
          intro v5 V hown5 hg5 hv5
          obtain ⟨A5, c5, rfl, _, _⟩ := own_form hown5
          have hOV : V.ownsRow w3.heap.size 3 1 (.slice A5 (Nr + 1) c5) (Nr + 1) (i64s (R.rest g (ns.take (i + 1)))) := by
            rw [HR2.out]
            simpa [i64s] using hown5
          have hTV : Rds V (fun b => w3.heap.size ≤ b ∧ some b ≠ (Value.slice A5 (Nr + 1) c5).ownBlock) At (i64s (ns.take i).reverse) := (hTa0.grown hg5 (fun b hb _ e => hb.1.2 e)).mono fun b hb => ⟨hb.1.1, fun e => by
            rcases hv5 with h5 | h5
            · rw [h5] at e; exact hb.1.2 e
            · rw [h5] at e
              injection e with e
              have h1 := hb.2
              have h2 : (wr.alloc (.cells #[.int .i64 x] 3)).heap.size = wr.heap.size + 1 := by simp
              omega⟩
          have hbV : Below w3.heap.size w3 V := hba.grown hg5 hba.size (fun k hk => (World.ownsRow.lt hOa k hk).1)
          have HR3 : Hid ((R.rest g (ns.take (i + 1))).length = Nr + 1) := Lib.hid (by rw [HR2.out, List.length_append, HRL.out]; rfl)
          clear hO hT hb hc hown5 hg5 hv5 hOa hTa0 hba hlit hsb
          have hsV := hbV.size
          have hlown : (V.alloc (.cells #[.int .i64 x] 3)).ownsRow V.heap.size 3 1 (.slice (some ⟨V.heap.size, 0, none⟩) 1 1) 1 (i64s [x]) := lit_own V [x] (by simp)
          have hTa := hTV.new (b_alloc V (.cells #[.int .i64 x] 3))
          have hsa : V.heap.size ≤ (V.alloc (.cells #[.int .i64 x] 3)).heap.size := (b_alloc V _).size
          have hltV : ∀ b, (Value.slice A5 (Nr + 1) c5).ownBlock = some b → w3.heap.size ≤ b ∧ b < V.heap.size := fun b hb => World.ownsRow.lt hOV b hb
          go_wp2_with (at_builtin; refine wpList_app _ rfl _ _ 22 rfl V.heap.size 3 i0 _ 8 Try.underlying22 HI.out HZ.out.1 HZ.out.2.1 HZ.out.2.2 rfl _ 1 _ rfl hlown _ At i ct (i64s (ns.take i).reverse) rfl HTL.out hTa (one_ints _ _) (by unfold maxLen; omega) (by omega) hsa ?_)
          intro v7 w7 hown7 hg7 _
          have hb7 : Below V.heap.size V w7 := (b_alloc V _).grown hg7 (b_alloc V _).size fun k hk => by simp [Value.ownBlock] at hk; omega
          obtain ⟨A7, c7, rfl, _, _⟩ := own_form hown7
          have hT7 : Rds w7 (fun b => w3.heap.size ≤ b ∧ some b ≠ (Value.slice A5 (Nr + 1) c5).ownBlock) A7 (i64s (ns.take (i + 1)).reverse) := by
            rw [HTT.out]
            have h := (own_rds hown7).mono (S' := fun b => w3.heap.size ≤ b ∧ some b ≠ (Value.slice A5 (Nr + 1) c5).ownBlock) fun b hb => ⟨by have := hb.1; omega, fun e => by have := (hltV b e.symm).2; have := hb.1; omega⟩
            simpa [i64s] using h
          have hO7 := own_newI hOV hb7
          have hbr7 := below_new hbV hb7
          try rw [show 1 + i = i + 1 by omega]
          clear hown7 hg7 hb7 hlown hTa hsa hTV hOV hbV
          go_wp2
          go_roundw
          case rel => exact ⟨i + 1, A5, Nr + 1, c5, A7, c7, by go_num, by omega, rfl, rfl, HR3, by omega, hO7, hT7, hbr7⟩
          case measure => simp [intOf]; omega
      · obtain rfl : i = n := by omega
        have hiN : ¬ (i : Int) < (i : Int) := by omega
        have hti : ns.take i = ns := List.take_of_length_le (by rw [HN.out]; exact Nat.le_refl _)
        rw [hti] at hO hT HRL
        clear hti
        obtain ⟨w4, hw4⟩ : ∃ W, W = wr := ⟨_, rfl⟩
        rw [← hw4] at hO hT hb ⊢
        clear hw4
        have hrA := hr3.new hb
        have hrR := (own_rds hO).mono (S' := fun _ => True) fun _ _ => trivial
        have hrT := hT.mono (S' := fun _ => True) fun _ _ => trivial
        have hb04 := below_new hb03 hb
        have hi9 : i ≤ 900000 := by omega
        have HPA : Hid (∀ W, Below w4.heap.size w4 W → _) := Lib.hid (fun W h => porder_any _ A i c ns k s W HSS.out HN.out (hrA.new h) hi9)
        have HPT : Hid (∀ W, Below w4.heap.size w4 W → _) := Lib.hid (fun W h => porder_any _ At i ct ns.reverse k s W HSS.out (by rw [List.length_reverse]; exact HN.out) (hrT.new h) hi9)
        have HPR : Hid (∀ W, Below w4.heap.size w4 W → _) := Lib.hid (fun W h => porder_any _ Ar Nr cr (R.rest g ns) k s W HSS.out HRL.out (hrR.new h) (by omega))
        have HOA : Hid (∀ W, Below w4.heap.size w4 W → _) := Lib.hid (fun W h => powner_any _ A i c ns k s W HSS.out HN.out (hrA.new h) hi9)
        have HOR : Hid (∀ W, Below w4.heap.size w4 W → _) := Lib.hid (fun W h => powner_any _ Ar Nr cr (R.rest g ns) k s W HSS.out HRL.out (hrR.new h) (by omega))
        simp only [R.all_rev] at HPT
        simp only [R.all_rest] at HPR
        have HNDL : Hid ((R.all ns k s).Nodup ∧ (R.all ns k s).length ≤ 8) := Lib.hid ⟨R.all_nodup, R.all_len⟩
        have HOW : Hid (∀ h t, R.all ns k s = h :: t → (R.own ns k s = (h : Int) ∧ R.oer ns k s = 0)) := Lib.hid fun h t e => R.own_cons e
        have HOW0 : Hid (R.all ns k s = [] → R.own ns k s = 0 ∧ R.oer ns k s = 8) := Lib.hid R.own_nil
        have HRW : Hid (∀ h t, R.left g (R.all ns k s) = h :: t → (R.own (R.rest g ns) k s = (h : Int) ∧ R.oer (R.rest g ns) k s = 0)) := Lib.hid fun h t e => R.own_cons (by rw [R.all_rest]; exact e)
        have HRW0 : Hid (R.left g (R.all ns k s) = [] → R.own (R.rest g ns) k s = 0 ∧ R.oer (R.rest g ns) k s = 8) := Lib.hid fun e => R.own_nil (by rw [R.all_rest]; exact e)
        generalize R.all ns k s = L at *
        generalize R.own ns k s = oA at *
        generalize R.oer ns k s = eA at *
        generalize R.own (R.rest g ns) k s = oR at *
        generalize R.oer (R.rest g ns) k s = eR at *
        clear hO hT hrA hrR hrT hr3 hb03 hb
        go_wp2_with fail
        refine (HPA.out _ (Below.refl _ _)).mono ?_
        rintro e w5 ⟨A5, N5, c5, rfl, hN5, hR5, hb5⟩
        have HN5 := Lib.hid hN5
        clear hN5 HPA
        go_wp2_with fail
        refine (HPT.out _ hb5).mono ?_
        rintro e w6 ⟨A6, N6, c6, rfl, hN6, hR6, hb6⟩
        have HN6 := Lib.hid hN6
        have hb46 := below_new hb5 hb6
        have hR56 := hR5.new hb6
        have h58 : N5 ≤ 8 := by rw [HN5.out]; exact HNDL.out.2
        have hI := ints_any _ _ A5 A6 N5 c5 N6 c6 (zi L) (zi L) w6 (by rw [zi_len, HN5.out]) hR56 (by rw [zi_len, HN6.out]) hR6 (by omega)
        rw [show decide (zi L = zi L) = true by simp] at hI
        have HIT := Lib.hid hI
        clear hN6 hI hR5 hR6 hb5 hb6 HPT
        go_wp2_with fail
        refine HIT.out.mono ?_
        rintro e w7 ⟨rfl, hd7⟩
        have hR7 := (hd7.rds hR56).old
        have hb47 := below_new hb46 (hd7.below _)
        clear HIT hR56 hb46 hd7
        go_wp2_with fail
        go_loopw [13, 67] (fun lv jv wr => ∃ (j : Nat) (Al : Option Addr) (Nl cl : Nat), jv = .int .i64 j ∧ j ≤ N5 ∧ lv = .slice Al Nl cl ∧ Hid ((R.left g (L.take j)).length = Nl) ∧ Nl ≤ j ∧ wr.ownsRow w7.heap.size 3 1 (.slice Al Nl cl) Nl (i64s (zi (R.left g (L.take j)))) ∧ Below w7.heap.size w7 wr) (fun _ jv _ => N5 - (intOf jv).toNat)
        case atStart => exact ⟨0, none, 0, 0, rfl, by omega, rfl, Lib.hid (by simp [R.left]), by omega, World.ownsRow_nil _ _ _ _, Below.refl _ _⟩
        case round =>
          obtain ⟨j, Al, Nl, cl, rfl, hj, rfl, HLL, hNl, hOl, hbl⟩ := hrel
          by_cases hjn : j < N5
          · have hjN : (j : Int) < (N5 : Int) := by omega
            have hjl : j < L.length := by rw [← HN5.out]; exact hjn
            obtain ⟨ad, rfl, hc⟩ := zi_at (hR7.new hbl) hjl
            have HLT := Lib.hid (R.left_take (g := g) hjl)
            generalize L[j] = x at *
            by_cases hx : x = g
            · have HL2 : Hid (R.left g (L.take (j + 1)) = R.left g (L.take j)) := Lib.hid (by rw [HLT.out, if_neg (by simpa using hx), List.append_nil])
              have hne : ((x : Int) != (g : Int)) = false := by simp; omega
              clear hx
              go_wp2
              go_roundw
              case rel => exact ⟨j + 1, Al, Nl, cl, by go_num, by omega, rfl, by rw [HL2.out]; exact HLL, by omega, by rw [HL2.out]; exact hOl, hbl⟩
              case measure => simp [intOf]; omega
            · have HL2 : Hid (R.left g (L.take (j + 1)) = R.left g (L.take j) ++ [x]) := Lib.hid (by rw [HLT.out, if_pos hx])
              have hne : ((x : Int) != (g : Int)) = true := by simp; omega
              have hlit : Rds (wr.alloc (.cells #[.int .i64 (x : Int)] 3)) (fun _ => True) (some ⟨wr.heap.size, 0, none⟩) (i64s [(x : Int)]) := one_rds wr .i64 (x : Int) 3
              have hOa := own_newI hOl (b_alloc wr (.cells #[.int .i64 (x : Int)] 3))
              have hba := below_new hbl (b_alloc wr (.cells #[.int .i64 (x : Int)] 3))
              have hsb := hba.size
              clear hx HLT hOl hbl
              go_wp2_with (at_builtin; refine wpList_app _ rfl _ _ 22 rfl w7.heap.size 3 i0 _ 8 Try.underlying22 HI.out HZ.out.1 HZ.out.2.1 HZ.out.2.2 rfl (.slice Al Nl cl) Nl _ rfl hOa (fun _ => True) _ 1 1 (i64s [(x : Int)]) rfl rfl hlit (one_ints _ _) (by unfold maxLen; omega) (by omega) hsb ?_)
              intro v8 w8 hown8 hg8' _
              obtain ⟨A8, c8, rfl, _, _⟩ := own_form hown8
              have hO8 : w8.ownsRow w7.heap.size 3 1 (.slice A8 (Nl + 1) c8) (Nl + 1) (i64s (zi (R.left g (L.take (j + 1))))) := by
                rw [HL2.out]
                simpa [i64s, zi] using hown8
              have hb8 : Below w7.heap.size w7 w8 := hba.grown hg8' hba.size (fun k hk => (World.ownsRow.lt hOa k hk).1)
              have HL3 : Hid ((R.left g (L.take (j + 1))).length = Nl + 1) := Lib.hid (by rw [HL2.out, List.length_append, HLL.out]; rfl)
              clear hown8 hg8' hOa hba hlit hsb hc
              go_wp2
              go_roundw
              case rel => exact ⟨j + 1, A8, Nl + 1, c8, by go_num, by omega, rfl, HL3, by omega, hO8, hb8⟩
              case measure => simp [intOf]; omega
          · obtain rfl : j = N5 := by omega
            have hjN : ¬ (j : Int) < (j : Int) := by omega
            have htl : L.take j = L := List.take_of_length_le (by rw [← HN5.out]; exact Nat.le_refl _)
            rw [htl] at hOl HLL
            have hb4r := below_new hb47 hbl
            have hR5r := hR7.new hbl
            have hRl := own_rds hOl
            clear htl hb47 hbl hR7 hOl
            go_wp2_with fail
            refine (HPR.out _ hb4r).mono ?_
            rintro e w9 ⟨A9, N9, c9, rfl, hN9, hR9, hb9⟩
            have HN9 := Lib.hid hN9
            have hb49 := below_new hb4r hb9
            have hI := ints_any _ _ A9 Al N9 c9 Nl cl (zi (R.left g L)) (zi (R.left g L)) w9 (by rw [zi_len, HN9.out]) hR9 (by rw [zi_len, HLL.out]) (hRl.new hb9) (by rw [HN9.out, HLL.out]; omega)
            rw [show decide (zi (R.left g L) = zi (R.left g L)) = true by simp] at hI
            have HIT := Lib.hid hI
            have hR5s := hR5r.new hb9
            clear hN9 hI hR9 hb4r hb9 hRl hR5r HPR
            go_wp2_with fail
            refine HIT.out.mono ?_
            rintro e w10 ⟨rfl, hd10⟩
            have hb410 := below_new hb49 (hd10.below _)
            have hR10 := hd10.rds hR5s
            clear HIT hb49 hd10 hR5s
            go_wp2_with fail
            refine (HOA.out _ hb410).mono ?_
            rintro e w11 ⟨rfl, hb11⟩
            have hb411 := below_new hb410 hb11
            have hR11 := hR10.new hb11
            clear hb410 hb11 hR10 HOA
            go_wp2_with fail
            refine (HOR.out _ hb411).mono ?_
            rintro e w12 ⟨rfl, hb12⟩
            have hbf := below_new hb04 (below_new hb411 hb12)
            have hR12 := hR11.new hb12
            clear hb411 hb12 hR11 HOR
            cases L with
            | nil =>
              obtain ⟨h1, h2⟩ := HOW0.out rfl
              obtain ⟨h3, h4⟩ := HRW0.out rfl
              subst h1; subst h2; subst h3; subst h4
              go_wp2
              go_ret
              exact ⟨rfl, hbf⟩
            | cons h t =>
              obtain ⟨h1, h2⟩ := HOW.out h t rfl
              subst h1; subst h2
              by_cases hhg : h = g
              · have hlc : R.left g (h :: t) = t := by rw [hhg]; exact R.left_cons (by rw [← hhg]; exact HNDL.out.1)
                have hne : ((h : Int) != (g : Int)) = false := by simp; omega
                cases t with
                | nil =>
                  obtain ⟨h3, h4⟩ := HRW0.out hlc
                  subst h3; subst h4
                  have hj1 : j = 1 := HN5.out
                  subst hj1
                  clear hlc HNDL HOW HOW0 HRW HRW0 HN5 HN6 HLL hR12 hhg
                  go_wp2
                  go_ret
                  exact ⟨rfl, hbf⟩
                | cons u r =>
                  obtain ⟨h3, h4⟩ := HRW.out u r hlc
                  subst h3; subst h4
                  obtain ⟨ad, rfl, hc⟩ := zi_at hR12 (i := 1) (by simp)
                  have hc : w12.cell? (ad.add 1) = some (.int .i64 (u : Int)) := hc
                  have hc2 : w12.cell? ⟨ad.block, ad.off + 1, none⟩ = some (.int .i64 (u : Int)) := hc
                  have hj2 : (1 : Int) < (j : Int) := by have := HN5.out; simp at this; omega
                  have hj3 : ((j : Int) == 1) = false := by simp; omega
                  have hj4 : decide ((1 : Int) < (j : Int)) = true := by simpa using hj2
                  have hj5 : ¬ (j : Int) = 1 := by omega
                  clear hlc HNDL HOW HOW0 HRW HRW0 HN5 HN6 HLL hR12 hhg
                  go_wp2
                  go_ret
                  exact ⟨rfl, hbf⟩
              · have hne : ((h : Int) != (g : Int)) = true := by simp; omega
                obtain ⟨h3, h4⟩ := HRW.out h (R.left g t) (R.left_cons_ne hhg)
                subst h3; subst h4
                clear HNDL HOW HOW0 HRW HRW0 HN5 HN6 HLL hR12 hhg
                go_wp2
                go_ret
                exact ⟨rfl, hbf⟩
end Go.Proofs.Ytdgmbopdommnhaa
