/- Layer 10, the document's own: Of. -/
import Derived.Test.YtodlifbhpgphcaaWinPutX
import Derived.Test.YtodlifbhpgphcaaWinMath
import Derived.Test.YtodlifbhpgphcaaEvRefSames
import Derived.Test.YtodlifbhpgphcaaEvCopies
import Derived.Deep.CutBlock
import Derived.Deep.DeepCutAuto
namespace Go.Proofs.Ytodlifbhpgphcaa
set_option linter.unusedVariables false
set_option linter.unusedSimpArgs false
open Go.ChangeShapes Go.WideShapes Go.ChangeAt Go.RowKit

/-- A call answers these events, in a row of its own. -/
def ROfPost (l : List EvV) (w : World) (e : Ending) (w' : World) : Prop :=
  ∃ A N c m, e = .returned (.slice A N c) ∧ N = m.length ∧ plain m = plain l ∧ EOwn w' (fun b => w.heap.size ≤ b) w.heap.size (.slice A N c) m ∧ Below w.heap.size w w'
theorem ERow.prefix {w : World} {B : Nat} {A : Option Addr} {n c j : Nat} {l : List EvV} (h : ERow w B (.slice A n c) l) (hj : j ≤ n) (hl : l.length = n) : ERow w B (.slice A j c) (l.take j) := by
  have hlj : (l.take j).length = j := by rw [List.length_take]; omega
  refine ⟨by rw [evs_len, hlj], ?_⟩
  rw [hlj]
  rcases h.2 with ⟨e, h0⟩ | ⟨g, cap, cur, e, hb, hh, hle, hm, hcz, hcells⟩
  · injection e with e1 e2 e3
    left
    have : j = 0 := by omega
    exact ⟨by rw [e1, e3, this], this⟩
  · injection e with e1 e2 e3
    right
    subst e3
    refine ⟨g, c, cur, by rw [e1], hb, hh, by omega, hm, hcz, ?_⟩
    rw [evs_take, ← hcells, List.take_take]
    congr 1
    omega
theorem EOwn.prefix {w : World} {S : Nat → Prop} {B : Nat} {A : Option Addr} {n c j : Nat} {l : List EvV} (h : EOwn w S B (.slice A n c) l) (hj : j ≤ n) (hl : l.length = n) : EOwn w S B (.slice A j c) (l.take j) :=
  ⟨h.row.prefix hj hl, fun e he => (h.dots e (List.mem_of_mem_take he)).mono fun b hb => ⟨hb.1, fun e' => hb.2 (by rw [e']; exact ownBlock_any _ _ _ _ _)⟩⟩

set_option maxRecDepth 100000 in
set_option maxHeartbeats 4000000 in
theorem rof_any (S : Nat → Prop) (A : Option Addr) (n c : Nat) (l : List EvV) (k nd sz : Int) (w : World) (hn : l.length = n) (hr : ERds w S A l) (hl : n ≤ 900000) (hm : ∀ e ∈ l, e.M.length ≤ 1000000) :
    Calls Try.prog 12 #[.slice A n c, .int .i64 k, .int .i64 nd, .int .i64 sz] w (ROfPost (newQ k nd sz l) w) := by
  have HN := Lib.hid hn
  have HM := Lib.hid hm
  have HR := Lib.hid hr
  clear hn hm hr
  go_enter Try.func12, Try.ntmps12
  go_wp2_with fail
  go_loopw [9, 16] (fun ov iv wr => ∃ (i : Nat) (Ao : Option Addr) (No co : Nat) (m : List EvV), iv = .int .i64 i ∧ i ≤ n ∧ ov = .slice Ao No co ∧ No ≤ i ∧ Hid (m.length = No ∧ plain m = plain (P.isort ltQ (smps k nd (l.take i)))) ∧ EOwn wr (fun b => w.heap.size ≤ b) w.heap.size (.slice Ao No co) m ∧ Below w.heap.size w wr) (fun _ iv _ => n - (intOf iv).toNat)
  case atStart => exact ⟨0, none, 0, 0, [], rfl, by omega, rfl, by omega, Lib.hid ⟨rfl, by simp [smps, P.isort]⟩, EOwn.nil _ _ _, Below.refl _ _⟩
  case round =>
    obtain ⟨i, Ao, No, co, m, rfl, hi, rfl, hNi, HS, hO, hb⟩ := hrel
    by_cases hlt : i < n
    · have hlt' : i < l.length := by rw [HN.out]; exact hlt
      have hiN : (i : Int) < (n : Int) := by omega
      obtain ⟨ad, rfl, _, hrx, c0, c1, c2, c3, c4, c5, c6, c7, c8, c9, c10, c11, c12, c13⟩ := (HR.out.new hb).cells hlt'
      obtain ⟨x, hx⟩ : ∃ x, x = l[i] := ⟨_, rfl⟩
      have hxl : x.M.length ≤ 1000000 := by rw [hx]; exact HM.out _ (List.getElem_mem hlt')
      rw [← hx] at hrx c0 c1 c2 c3 c4 c5 c6 c7 c8 c9 c10 c11 c12 c13
      have HX := Lib.hid hx
      obtain ⟨F, M, Ax, cx⟩ := x
      simp only at hrx c0 c1 c2 c3 c4 c5 c6 c7 c8 c9 c10 c11 c12 c13 hxl
      obtain ⟨q, hq⟩ : ∃ q, M.length = q := ⟨_, rfl⟩
      rw [hq] at c13 hxl
      obtain ⟨w1, hw1⟩ : ∃ W, wr.alloc (.cells (ecs F Ax q cx) 46) = W := ⟨_, rfl⟩
      have hb1 : Below wr.heap.size wr w1 := by rw [← hw1]; exact b_alloc _ _
      obtain ⟨gx, hgx⟩ : ∃ g, g = wr.heap.size := ⟨_, rfl⟩
      have hE1 : Blo w1 gx 46 (ecs F Ax q cx) := by rw [← hw1, hgx]; exact Blo.made _ _ _
      have hO1 := hO.new hb1
      have hrx1 := hrx.new hb1
      have hb01 := below_new hb hb1
      have HW1 := Lib.hid hw1
      have HGX := Lib.hid hgx
      have HQ := Lib.hid hq
      clear hx hq hw1 hgx hrx
      by_cases hset : F 3 = 1 ∧ F 4 = k ∧ F 0 = nd
      · have HSY : Hid (smps k nd (l.take (i + 1)) = smps k nd (l.take i) ++ [⟨F, M, Ax, cx⟩]) := Lib.hid (by rw [smps_yes hlt' (by rw [← HX.out]; exact hset), ← HX.out])
        have h3' : (F 3 != 1) = false := by simpa using hset.1
        have h4' : (F 4 != k) = false := by simpa using hset.2.1
        have h0' : (F 0 != nd) = false := by simpa using hset.2.2
        clear hset hO hb
        go_upto_block 2 with fail
        rw [HW1.out, ← HGX.out]
        clear c0 c1 c2 c3 c4 c5 c6 c7 c8 c9 c10 c11 c12 c13 h3' h4' h0'
        go_cut [12] (fun tv wx => ∃ t : Nat, tv = .int .i64 t ∧ t ≤ No ∧ Hid (P.place ltQ ⟨F, M, Ax, cx⟩ m m.length = t) ∧ Below w1.heap.size w1 wx)
        case first =>
         go_wp2_with fail
         go_loopw [12] (fun tv wr => ∃ t : Nat, tv = .int .i64 t ∧ t ≤ No ∧ Hid (P.place ltQ ⟨F, M, Ax, cx⟩ m m.length = P.place ltQ ⟨F, M, Ax, cx⟩ m t) ∧ Below w1.heap.size w1 wr) (fun tv _ => (intOf tv).toNat)
         case atStart => exact ⟨No, rfl, by omega, Lib.hid (by rw [HS.out.1]), Below.refl _ _⟩
         case round =>
          obtain ⟨t, rfl, ht, HP, hbt⟩ := hrel
          by_cases ht0 : 0 < t
          · obtain ⟨t, rfl⟩ : ∃ z, t = z + 1 := ⟨t - 1, by omega⟩
            have htl : t < m.length := by rw [HS.out.1]; omega
            obtain ⟨am, rfl, _, y0, yk, _⟩ := (hO1.new hbt).erds.ev htl
            obtain ⟨y, hy⟩ : ∃ y, y = m[t] := ⟨_, rfl⟩
            rw [← hy] at y0 yk
            obtain ⟨b, hbv⟩ : ∃ b, b = decide (y.F 1 < F 1) := ⟨_, rfl⟩
            have HBV : Hid (b = ltQ ⟨F, M, Ax, cx⟩ m[t]) := Lib.hid (by rw [hbv, ← hy]; rfl)
            have hEt := hE1.new hbt
            have HEX : Hid (∀ V, Grows wr V → _) := Lib.hid (fun V hV => set14 (hEt.new hV))
            have hEY : EvAt wr (am.add (t * 14)) y.F y.A y.M.length y.c := ⟨y0, yk⟩
            have HEY : Hid (∀ V, Grows wr V → _) := Lib.hid (fun V hV => (hEY.up hV).all)
            have HBD := Lib.hid hbv
            clear hy hbv hEt hEY y0 yk
            obtain ⟨G, M2, Ay, cy⟩ := y
            simp only at HEY HBD
            obtain ⟨r, hr⟩ : ∃ r, r = M2.length := ⟨_, rfl⟩
            rw [← hr] at HEY
            clear hr
            have hbd := HBD.out.symm
            have hgt : (0 : Int) < ((t + 1 : Nat) : Int) := by omega
            have hgt2 : (0 : Int) < (t : Int) + 1 := by omega
            have ek : IntKind.i64.wrap (((t + 1 : Nat) : Int) - 1) = (t : Int) := by rw [IntWalk.i64_in _ (by omega)]; omega
            have ek3 : IntKind.i64.wrap ((t : Int) + 1 - 1) = (t : Int) := by rw [IntWalk.i64_in _ (by omega)]; omega
            have ek4 : IntKind.i64.wrap (t : Int) = (t : Int) := IntWalk.i64_in _ (by omega)
            have hpt : 0 ≤ (t : Int) ∧ (t : Int) < (No : Int) := by omega
            have htt : ((t : Int)).toNat = t := by omega
            go_wp2_with fail
            refine wp_fam (n := 15) (size := 77) (D := [38, 39, 40, 41, 42, 43, 44, 45, 46, 47, 48, 49, 50, 51, 52]) [(38, isV (.int .i64 ((t + 1 : Nat) : Int))), (39, isV (.bool true)), (40, isV (.bool true)), (41, isV (.pointer (some ⟨gx, 0, none⟩))), (42, isV (.pointer (some ⟨gx, 1, none⟩))), (43, isV (.int .i64 (F 1))), (44, isV (.slice (some am) No co)), (45, isV (.int .i64 ((t + 1 : Nat) : Int))), (46, isV (.int .i64 (t : Int))), (47, isV (.pointer (some (am.add (t * 14))))), (48, isV (.pointer (some (am.add (t * 14))))), (49, isV (.pointer (some ⟨(am.add (t * 14)).block, (am.add (t * 14)).off + 1, none⟩))), (50, isV (.int .i64 (G 1))), (51, isV (.bool b)), (52, isV (.bool b))] (by kernel_rfl) (by rfl) (by kernel_rfl) ?_ ?_
            · simp only [List.take_succ_cons, List.take_zero, famAll]
              repeat' apply And.intro
              · intro f V hg hl
                simp [Oper.looksAt, Op.operands, Call.operands, famAt, famOf, isV] at hl
                simp [famWants, boolIs_bool, boolIs_undef, execOp, rho, go_sem, hl, famUpon, famOf, isV, Grows.refl]
              · intro f V hg hl
                simp [Oper.looksAt, Op.operands, Call.operands, famAt, famOf, isV] at hl
                simp [famWants, boolIs_bool, boolIs_undef, execOp, rho, go_sem, hl, hgt, hgt2, famUpon, famOf, isV, Grows.refl]
              · intro f V hg hl
                simp [Oper.looksAt, Op.operands, Call.operands, famAt, famOf, isV] at hl
                simp [famWants, boolIs_bool, boolIs_undef, execOp, rho, go_sem, hl, famUpon, famOf, isV, Grows.refl]
              · intro f V hg hl
                simp [Oper.looksAt, Op.operands, Call.operands, famAt, famOf, isV] at hl
                simp [famWants, boolIs_bool, boolIs_undef, execOp, rho, go_sem, hl, famUpon, famOf, isV, Grows.refl]
              · intro f V hg hl
                simp [Oper.looksAt, Op.operands, Call.operands, famAt, famOf, isV] at hl
                simp [famWants, boolIs_bool, boolIs_undef, execOp, rho, go_sem, hl, famUpon, famOf, isV, Grows.refl]
              · intro f V hg hl
                obtain ⟨c0, c1, c2, c3, c4, c5, c6, c7, c8, c9, c10, c11, c12, c13⟩ := HEX.out V hg
                simp [Oper.looksAt, Op.operands, Call.operands, famAt, famOf, isV] at hl
                simp [famWants, boolIs_bool, boolIs_undef, execOp, rho, go_sem, hl, c0, c1, c2, c3, c4, c5, c6, c7, c8, c9, c10, c11, c12, c13, famUpon, famOf, isV, Grows.refl]
              · intro f V hg hl
                simp [Oper.looksAt, Op.operands, Call.operands, famAt, famOf, isV] at hl
                simp [famWants, boolIs_bool, boolIs_undef, execOp, rho, go_sem, hl, famUpon, famOf, isV, Grows.refl]
              · intro f V hg hl
                simp [Oper.looksAt, Op.operands, Call.operands, famAt, famOf, isV] at hl
                simp [famWants, boolIs_bool, boolIs_undef, execOp, rho, go_sem, hl, famUpon, famOf, isV, Grows.refl]
              · intro f V hg hl
                simp [Oper.looksAt, Op.operands, Call.operands, famAt, famOf, isV] at hl
                simp [famWants, boolIs_bool, boolIs_undef, execOp, rho, go_sem, hl, ek, ek3, ek4, famUpon, famOf, isV, Grows.refl]
              · intro f V hg hl
                simp [Oper.looksAt, Op.operands, Call.operands, famAt, famOf, isV] at hl
                simp [famWants, boolIs_bool, boolIs_undef, execOp, rho, go_sem, hl, hpt, htt, famUpon, famOf, isV, Grows.refl]
              · intro f V hg hl
                simp [Oper.looksAt, Op.operands, Call.operands, famAt, famOf, isV] at hl
                simp [famWants, boolIs_bool, boolIs_undef, execOp, rho, go_sem, hl, famUpon, famOf, isV, Grows.refl]
              · intro f V hg hl
                simp [Oper.looksAt, Op.operands, Call.operands, famAt, famOf, isV] at hl
                simp [famWants, boolIs_bool, boolIs_undef, execOp, rho, go_sem, hl, famUpon, famOf, isV, Grows.refl]
              · intro f V hg hl
                obtain ⟨c0, c1, c2, c3, c4, c5, c6, c7, c8, c9, c10, c11, c12, c13⟩ := HEY.out V hg
                simp [Oper.looksAt, Op.operands, Call.operands, famAt, famOf, isV] at hl
                simp [famWants, boolIs_bool, boolIs_undef, execOp, rho, go_sem, hl, c0, c1, c2, c3, c4, c5, c6, c7, c8, c9, c10, c11, c12, c13, famUpon, famOf, isV, Grows.refl]
              · intro f V hg hl
                simp [Oper.looksAt, Op.operands, Call.operands, famAt, famOf, isV] at hl
                simp [famWants, boolIs_bool, boolIs_undef, execOp, rho, go_sem, hl, hbd, famUpon, famOf, isV, Grows.refl]
              · intro f V hg hl
                simp [Oper.looksAt, Op.operands, Call.operands, famAt, famOf, isV] at hl
                simp [famWants, boolIs_bool, boolIs_undef, execOp, rho, go_sem, hl, famUpon, famOf, isV, Grows.refl]
              · trivial
            · intro u V hgV hu
              have e52 : u 52 = .bool b := hu 52 (by decide)
              simp only [List.drop_succ_cons, List.drop_zero, fill, Act.put, List.setIfInBounds_toArray, List.set_cons_zero, List.set_cons_succ, e52]
              refine wpList_nil ?_
              have hbV := below_new hbt hgV
              clear hu e52 HEX HEY hgV
              cases b with
              | true =>
                have HP2 : Hid (P.place ltQ ⟨F, M, Ax, cx⟩ m m.length = P.place ltQ ⟨F, M, Ax, cx⟩ m t) := Lib.hid (by rw [HP.out, place_yes htl HBV.out.symm])
                clear HP HBV
                go_wp2
                go_roundw
                case rel => exact ⟨t, (by first | rfl | go_num), by omega, HP2, hbV⟩
                case measure => simp [intOf]
              | false =>
                have HP2 : Hid (P.place ltQ ⟨F, M, Ax, cx⟩ m m.length = t + 1) := Lib.hid (by rw [HP.out, place_no htl HBV.out.symm])
                clear HP HBV
                go_wp2_with fail
                go_meet
                exact ⟨t + 1, (by first | rfl | go_num), by omega, HP2, hbV⟩
          · obtain rfl : t = 0 := by omega
            have HP2 : Hid (P.place ltQ ⟨F, M, Ax, cx⟩ m m.length = 0) := Lib.hid (by rw [HP.out, place_zero])
            go_wp2_with fail
            refine wp_fam (n := 15) (size := 77) (D := [38, 39, 40, 41, 42, 43, 44, 45, 46, 47, 48, 49, 50, 51, 52]) [(38, isV (.int .i64 ((0 : Nat) : Int))), (39, isV (.bool false)), (40, isV (.bool false)), (41, isV (undef)), (42, isV (undef)), (43, isV (undef)), (44, isV (undef)), (45, isV (undef)), (46, isV (undef)), (47, isV (undef)), (48, isV (undef)), (49, isV (undef)), (50, isV (undef)), (51, isV (undef)), (52, isV (.bool false))] (by kernel_rfl) (by rfl) (by kernel_rfl) ?_ ?_
            · simp only [List.take_succ_cons, List.take_zero, famAll]
              repeat' apply And.intro
              · intro f V hg hl
                simp [Oper.looksAt, Op.operands, Call.operands, famAt, famOf, isV] at hl
                simp [famWants, boolIs_bool, boolIs_undef, execOp, rho, go_sem, hl, famUpon, famOf, isV, Grows.refl]
              · intro f V hg hl
                simp [Oper.looksAt, Op.operands, Call.operands, famAt, famOf, isV] at hl
                simp [famWants, boolIs_bool, boolIs_undef, execOp, rho, go_sem, hl, famUpon, famOf, isV, Grows.refl]
              · intro f V hg hl
                simp [Oper.looksAt, Op.operands, Call.operands, famAt, famOf, isV] at hl
                simp [famWants, boolIs_bool, boolIs_undef, execOp, rho, go_sem, hl, famUpon, famOf, isV, Grows.refl]
              · intro f V hg hl
                simp [Oper.looksAt, Op.operands, Call.operands, famAt, famOf, isV] at hl
                simp [famWants, boolIs_bool, boolIs_undef, execOp, rho, go_sem, hl, famUpon, famOf, isV, Grows.refl]
              · intro f V hg hl
                simp [Oper.looksAt, Op.operands, Call.operands, famAt, famOf, isV] at hl
                simp [famWants, boolIs_bool, boolIs_undef, execOp, rho, go_sem, hl, famUpon, famOf, isV, Grows.refl]
              · intro f V hg hl
                simp [Oper.looksAt, Op.operands, Call.operands, famAt, famOf, isV] at hl
                simp [famWants, boolIs_bool, boolIs_undef, execOp, rho, go_sem, hl, famUpon, famOf, isV, Grows.refl]
              · intro f V hg hl
                simp [Oper.looksAt, Op.operands, Call.operands, famAt, famOf, isV] at hl
                simp [famWants, boolIs_bool, boolIs_undef, execOp, rho, go_sem, hl, famUpon, famOf, isV, Grows.refl]
              · intro f V hg hl
                simp [Oper.looksAt, Op.operands, Call.operands, famAt, famOf, isV] at hl
                simp [famWants, boolIs_bool, boolIs_undef, execOp, rho, go_sem, hl, famUpon, famOf, isV, Grows.refl]
              · intro f V hg hl
                simp [Oper.looksAt, Op.operands, Call.operands, famAt, famOf, isV] at hl
                simp [famWants, boolIs_bool, boolIs_undef, execOp, rho, go_sem, hl, famUpon, famOf, isV, Grows.refl]
              · intro f V hg hl
                simp [Oper.looksAt, Op.operands, Call.operands, famAt, famOf, isV] at hl
                simp [famWants, boolIs_bool, boolIs_undef, execOp, rho, go_sem, hl, famUpon, famOf, isV, Grows.refl]
              · intro f V hg hl
                simp [Oper.looksAt, Op.operands, Call.operands, famAt, famOf, isV] at hl
                simp [famWants, boolIs_bool, boolIs_undef, execOp, rho, go_sem, hl, famUpon, famOf, isV, Grows.refl]
              · intro f V hg hl
                simp [Oper.looksAt, Op.operands, Call.operands, famAt, famOf, isV] at hl
                simp [famWants, boolIs_bool, boolIs_undef, execOp, rho, go_sem, hl, famUpon, famOf, isV, Grows.refl]
              · intro f V hg hl
                simp [Oper.looksAt, Op.operands, Call.operands, famAt, famOf, isV] at hl
                simp [famWants, boolIs_bool, boolIs_undef, execOp, rho, go_sem, hl, famUpon, famOf, isV, Grows.refl]
              · intro f V hg hl
                simp [Oper.looksAt, Op.operands, Call.operands, famAt, famOf, isV] at hl
                simp [famWants, boolIs_bool, boolIs_undef, execOp, rho, go_sem, hl, famUpon, famOf, isV, Grows.refl]
              · intro f V hg hl
                simp [Oper.looksAt, Op.operands, Call.operands, famAt, famOf, isV] at hl
                simp [famWants, boolIs_bool, boolIs_undef, execOp, rho, go_sem, hl, famUpon, famOf, isV, Grows.refl]
              · trivial
            · intro u V hgV hu
              have e52 : u 52 = .bool false := hu 52 (by decide)
              simp only [List.drop_succ_cons, List.drop_zero, fill, Act.put, List.setIfInBounds_toArray, List.set_cons_zero, List.set_cons_succ, e52]
              refine wpList_nil ?_
              have hbV := below_new hbt hgV
              clear hu e52 hgV HP
              go_wp2_with fail
              go_meet
              exact ⟨0, (by first | rfl | go_num), by omega, HP2, hbV⟩
        case rest =>
          obtain ⟨t, rfl, ht, HP, hbt⟩ := hcut
          have hOc := hO1.new hbt
          have hEc := hE1.new hbt
          have hbc := below_new hb01 hbt
          have hBc : w.heap.size ≤ wc.heap.size := hbc.size
          have hgc : gx < wc.heap.size := hEc.lt
          have hNc : No ≤ co := by
            obtain ⟨A0, c0, e0, hle, _⟩ := hOc.row.form
            simp only [Value.slice.injEq] at e0
            rw [← HS.out.1, e0.2.2]
            exact hle
          obtain ⟨w8, hw8⟩ : ∃ W, wc.alloc (.cells #[] 46) = W := ⟨_, rfl⟩
          have hb8 : Below wc.heap.size wc w8 := by rw [← hw8]; exact b_alloc _ _
          have hs8 := hb8.size
          have hR8 : ERow w8 wc.heap.size (.slice (some ⟨wc.heap.size, 0, none⟩) 0 0) [] := by rw [← hw8]; exact ERow.lit0 _
          have hO8 : EOwn w8 (fun b => w.heap.size ≤ b) wc.heap.size (.slice (some ⟨wc.heap.size, 0, none⟩) 0 0) [] := ⟨hR8, fun e he => by cases he⟩
          have hto := run_eto Ao No co t (Nat.le_trans ht hNc) w8
          have hrd8 : Rds w8 (fun _ => True) Ao (evs (m.take t)) := ((hOc.erds.take t).new hb8).1
          have hdt8 : ∀ e ∈ m.take t, Rds w8 (fun b => w.heap.size ≤ b ∧ some b ≠ (Value.slice (some ⟨wc.heap.size, 0, none⟩) 0 0).ownBlock) e.A (dvs e.M) := fun e he => ((hOc.dots e (List.mem_of_mem_take he)).old.new hb8).mono fun b hb => ⟨hb.1.1, fun e' => by
            have h1 := hb.2
            simp [Value.ownBlock] at e'
            omega⟩
          have hlk : (m.take t).length = t := by rw [List.length_take, HS.out.1]; omega
          have HDR : Hid (ERds wc (fun b => b < wc.heap.size) (if co = t then Ao else Ao.map (·.add (t * 14))) (m.drop t)) := Lib.hid (((hOc.erds).from (by rw [HS.out.1]; exact hNc)).old.mono fun b hb => hb.2)
          have HFR : Hid (∀ W, (Instr.slice 22 (.slice Ao No co) (some (.int .i64 (t : Int))) none none).run Try.prog W = .ok (.slice (if co = t then Ao else Ao.map (·.add (t * 14))) (No - t) (co - t)) W) := Lib.hid (fun W => run_efrom Ao No co t ht W)
          have HDZ : Hid (∀ e ∈ m.drop t, Rds wc (fun b => w.heap.size ≤ b ∧ b < wc.heap.size) e.A (dvs e.M)) := Lib.hid (fun e he => (hOc.dots e (List.mem_of_mem_drop he)).old.mono fun b hb => ⟨hb.1.1, hb.2⟩)
          obtain ⟨Ad, hAd⟩ : ∃ x, x = if co = t then Ao else Ao.map (·.add (t * 14)) := ⟨_, rfl⟩
          obtain ⟨nn, hnn⟩ : ∃ x, x = No - t := ⟨_, rfl⟩
          obtain ⟨cd, hcd⟩ : ∃ x, x = co - t := ⟨_, rfl⟩
          rw [← hAd] at HDR HFR
          rw [← hnn, ← hcd] at HFR
          have HND : Hid ((m.drop t).length = nn) := Lib.hid (by rw [List.length_drop, HS.out.1, hnn])
          have HNK : Hid (t + 1 + nn = No + 1) := Lib.hid (by omega)
          have HW8 := Lib.hid hw8
          have HS8 : Hid (w8.heap.size = wc.heap.size + 1) := Lib.hid (by rw [← hw8]; simp)
          have HLK := Lib.hid hlk
          rw [← hw8] at hto hrd8 hR8 hs8
          have hk6 : ([] : List EvV).length + t ≤ 1000000 := by simp; omega
          clear hw8 hAd hnn hcd hlk hOc hO1
          go_wp2_with (at_builtin; refine wpList_eapp' _ rfl _ _ rfl wc.heap.size (.slice (some ⟨wc.heap.size, 0, none⟩) 0 0) [] rfl hR8 _ Ao t co (m.take t) rfl HLK.out hrd8 hk6 hs8 ?_)
          intro v9 w9 hr9 hg9 hv9
          rw [HW8.out] at hg9
          rw [← HS8.out] at hv9
          have hO9 := hO8.app hr9 hg9 hv9 hdt8
          obtain ⟨A8, c8, rfl, _⟩ := hr9.form
          rw [List.nil_append] at hO9
          rw [HLK.out] at hO9 hr9 ⊢
          have hb89 : Below wc.heap.size wc w9 := hb8.grown hg9 hb8.size (fun k hk => by simp [Value.ownBlock] at hk; omega)
          have hB9 : wc.heap.size ≤ w9.heap.size := hb89.size
          have HDR9 : Hid (ERds w9 (fun b => b < wc.heap.size) Ad (m.drop t)) := Lib.hid (HDR.out.new hb89)
          have HDZ9 : Hid (∀ e ∈ m.drop t, Rds w9 (fun b => w.heap.size ≤ b ∧ b < wc.heap.size) e.A (dvs e.M)) := Lib.hid (fun e he => (HDZ.out e he).new hb89)
          have HRX9 : Hid (Rds w9 (fun b => b < wc.heap.size) Ax (dvs M)) := Lib.hid (((hrx1.new hbt).old.mono fun b hb => hb.2).new hb89)
          have HC : Hid (∀ W, Below wc.heap.size w9 W → Calls Try.prog 18 #[ev F Ax q cx] W (EvPost F M W)) := Lib.hid (fun W hW => ecopy_any (fun b => b < wc.heap.size) F Ax q cx M W HQ.out (HRX9.out.below hW fun b hb _ => hb) hxl)
          have HX0 : Hid (∀ f : Nat → Value, f 9 = .slice Ao No co → PutQ w9 (fun b => w.heap.size ≤ b) wc.heap.size gx F Ax q cx M (.slice A8 t c8) (.slice Ao No co) (m.take t) (m.drop t) (fun _ => false) f w9) := Lib.hid (fun f hf => ⟨⟨Below.refl _ _, Nat.le_refl _⟩, hEc.new hb89, fun _ => hf, fun e => (by cases e), fun e => (by cases e), fun _ => hO9, fun e => (by cases e), fun e => (by cases e)⟩)
          have HB89 := Lib.hid hb89
          clear hO8 hto hrd8 hR8 hdt8 hr9 hg9 hv9 hO9 hb8 hs8 hb89
          go_upto_region 10 with fail
          refine wp_famZ (size := 77) (D := [60, 61, 62, 63, 64, 65, 66, 67, 68, 9]) [1, 2, 3, 4, 5, 8, 9] [62, 63, 64, 68, 9] [(60, isV (.slice A8 t c8)), (61, isV (ev F Ax q cx)), (65, isV (.slice Ao No co)), (66, isV (.int .i64 (t : Int))), (67, isV (.slice Ad nn cd))] (PutQ w9 (fun b => w.heap.size ≤ b) wc.heap.size gx F Ax q cx M (.slice A8 t c8) (.slice Ao No co) (m.take t) (m.drop t)) (PutQ.up hB9) (by kernel_rfl) (by rfl) (by kernel_rfl) (HX0.out _ rfl) ?_ ?_
          · simp only [famAllZ]
            repeat' apply And.intro
            · rw [if_neg (by decide)]
              intro f W hl
              simp [Oper.looksAt, Op.operands, Call.operands, famAt, famOf, isV] at hl
              simp [famWants, execOp, rho, go_sem, hl, famUpon, famOf, isV, Grows.refl]
            · rw [if_pos (by decide)]
              intro L f W hi hcl hwt hX hl
              simp [Oper.looksAt, Op.operands, Call.operands, famAt, famOf, isV] at hl
              obtain ⟨z0, z1, z2, z3, z4, z5, z6, z7, z8, z9, z10, z11, z12, z13⟩ := set14 hX.2.1
              simp [famWants, execOp, rho, go_sem, hl, z0, z1, z2, z3, z4, z5, z6, z7, z8, z9, z10, z11, z12, z13, famUpon, famOf, isV]
              exact hX.pass
            · rw [if_pos (by decide)]
              intro L f W hi hcl hwt hX hl
              simp [Oper.looksAt, Op.operands, Call.operands, famAt, famOf, isV] at hl
              have h3 : L 3 = false := by
                cases e : L 3 with
                | false => rfl
                | true => rw [hcl 3 2 (by kernel_rfl) e] at hi; cases hi
              have h4 : L 4 = false := by
                cases e : L 4 with
                | false => rfl
                | true => rw [hcl 4 3 (by kernel_rfl) e] at h3; cases h3
              have h8 : L 8 = false := by
                cases e : L 8 with
                | false => rfl
                | true => rw [hcl 8 4 (by kernel_rfl) e] at h4; cases h4
              have hc := HC.out W hX.1.1
              simp [famWants, execOp, rho, go_sem, hl, famUpon, famOf, isV]
              refine hc.mono ?_
              rintro e w'' ⟨A', c', rfl, hcp, hg'⟩
              have hfin := hX.cop hB9 h3 h4 h8 hcp hg'
              rw [HQ.out]
              exact ⟨_, rfl, hfin⟩
            · rw [if_pos (by decide)]
              intro L f W hi hcl hwt hX hl
              simp [Oper.looksAt, Op.operands, Call.operands, famAt, famOf, isV] at hl
              have h4 : L 4 = false := by
                cases e : L 4 with
                | false => rfl
                | true => rw [hcl 4 3 (by kernel_rfl) e] at hi; cases hi
              have h8 : L 8 = false := by
                cases e : L 8 with
                | false => rfl
                | true => rw [hcl 8 4 (by kernel_rfl) e] at h4; cases h4
              have h2 : L 2 = true := hwt 2 (by kernel_rfl)
              obtain ⟨A', c', e62, hfin⟩ := hX.lit hB9 h2 hi h4 h8
              simp [famWants, execOp, rho, go_sem, hl, e62, famUpon, famOf, isV]
              exact hfin
            · rw [if_pos (by decide)]
              intro L f W hi hcl hwt hX hl
              simp [Oper.looksAt, Op.operands, Call.operands, famAt, famOf, isV] at hl
              have h8 : L 8 = false := by
                cases e : L 8 with
                | false => rfl
                | true => rw [hcl 8 4 (by kernel_rfl) e] at hi; cases hi
              have h3 : L 3 = true := hwt 3 (by kernel_rfl)
              obtain ⟨b, e63, v, W', hrun, hfin⟩ := hX.app hB9 HQ.out (fun b hb => Nat.le_trans hBc hb) hgc h3 hi h8 (by rw [HLK.out]; omega)
              refine ⟨fun _ => ?_, fun hh => ?_⟩
              · simp only [execOp, resolve, invoke, builtin, rho, Sem.run_bind, Sem.run_pure, Result.andThen_ok, List.map_toArray, List.map_cons, List.map_nil, hl, e63, hrun, famUpon]
                exact ⟨fun d hd => by cases hd; exact trivial, hfin⟩
              · simp [famWants] at hh
            · rw [if_pos (by decide)]
              intro L f W hi hcl hwt hX hl
              simp [Oper.looksAt, Op.operands, Call.operands, famAt, famOf, isV] at hl
              have e9 := hX.2.2.1 hi
              simp [famWants, execOp, rho, go_sem, e9, famUpon, famOf, isV]
              exact hX.mv
            · rw [if_neg (by decide)]
              intro f W hl
              simp [Oper.looksAt, Op.operands, Call.operands, famAt, famOf, isV] at hl
              simp [famWants, execOp, rho, go_sem, hl, famUpon, famOf, isV, Grows.refl]
            · rw [if_neg (by decide)]
              intro f W hl
              simp [Oper.looksAt, Op.operands, Call.operands, famAt, famOf, isV] at hl
              have h9 := run_at (HFR.out W)
              simp [famWants, execOp, rho, go_sem, hl, h9, famUpon, famOf, isV, Grows.refl]
            · rw [if_pos (by decide)]
              intro L f W hi hcl hwt hX hl
              simp [Oper.looksAt, Op.operands, Call.operands, famAt, famOf, isV] at hl
              have h9 : L 9 = false := by
                cases e : L 9 with
                | false => rfl
                | true => rw [hcl 9 8 (by kernel_rfl) e] at hi; cases hi
              have h4 : L 4 = true := hwt 4 (by kernel_rfl)
              obtain ⟨A2, c2, e64, v, W', hrun, hfin⟩ := hX.app2 hB9 hgc h4 hi h9 HND.out (T := fun b => b < wc.heap.size) (Ah := Ad) (ch := cd) ⟨HDR9.out.1.below hX.1.1 (fun b hb _ => hb), fun e he => (HDR9.out.2 e he).below hX.1.1 (fun b hb _ => hb)⟩ (fun b hb => hb) (fun e he => (HDZ9.out e he).below hX.1.1 (fun b hb _ => hb.2)) (by rw [HLK.out, HND.out]; have := HNK.out; omega)
              rw [HLK.out] at e64 hrun
              refine ⟨fun _ => ?_, fun hh => ?_⟩
              · simp only [execOp, resolve, invoke, builtin, rho, Sem.run_bind, Sem.run_pure, Result.andThen_ok, List.map_toArray, List.map_cons, List.map_nil, hl, e64, hrun, famUpon]
                exact ⟨fun d hd => by cases hd; exact trivial, hfin⟩
              · simp [famWants] at hh
            · rw [if_pos (by decide)]
              intro L f W hi hcl hwt hX hl
              simp [Oper.looksAt, Op.operands, Call.operands, famAt, famOf, isV] at hl
              have h8 : L 8 = true := hwt 8 (by kernel_rfl)
              have h4 : L 4 = true := hcl 8 4 (by kernel_rfl) h8
              have h3 : L 3 = true := hcl 4 3 (by kernel_rfl) h4
              have h5 : L 5 = true := hwt 5 (by kernel_rfl)
              obtain ⟨A3, c3, A', c', e68, _⟩ := hX.2.2.2.2.2.2.2 h8
              rw [HLK.out, HND.out] at e68
              simp [famWants, execOp, rho, go_sem, e68, famUpon, famOf, isV]
              exact hX.set h3 h4 h5 h8 e68
            · trivial
          · intro L' u W hL hX hu
            obtain ⟨q1, A3, c3, A', c', e9, q4⟩ := hX.fin (hL 8 (by decide)) (hL 9 (by decide))
            simp only [fill, Act.put, List.setIfInBounds_toArray, List.set_cons_zero, List.set_cons_succ, e9]
            refine wpList_nil ?_
            rw [HLK.out, HND.out] at q4 ⊢
            have hbW : Below w.heap.size w W := (below_new hbc HB89.out).trans (q1.mono hBc)
            have hp := plain_putQ (s := smps k nd (l.take i)) (e := ⟨F, M, Ax, cx⟩) (x := ⟨F, M, A', c'⟩) HS.out.2 rfl
            rw [HP.out] at hp
            have HS2 : Hid ((m.take t ++ [(⟨F, M, A', c'⟩ : EvV)] ++ m.drop t).length = t + 1 + nn ∧ plain (m.take t ++ [(⟨F, M, A', c'⟩ : EvV)] ++ m.drop t) = plain (P.isort ltQ (smps k nd (l.take (i + 1))))) := Lib.hid ⟨by rw [List.length_append, List.length_append, HLK.out, HND.out]; rfl, by rw [HSY.out, List.append_assoc, List.singleton_append]; exact hp⟩
            clear hp
            clear hu hL hX HX0 e9
            go_wp2
            go_roundw
            case rel => exact ⟨i + 1, A3, _, c3, _, by go_num, by omega, rfl, by have := HNK.out; omega, HS2, q4.mono hBc (fun b hb => hb), hbW⟩
            case measure => simp [intOf]; omega
      · have HSN : Hid (smps k nd (l.take (i + 1)) = smps k nd (l.take i)) := Lib.hid (smps_no hlt' (by rw [← HX.out]; exact hset))
        have HS2 : Hid (m.length = No ∧ plain m = plain (P.isort ltQ (smps k nd (l.take (i + 1))))) := Lib.hid ⟨HS.out.1, by rw [HSN.out]; exact HS.out.2⟩
        by_cases h3 : F 3 = 1
        · have h3' : (F 3 != 1) = false := by simpa using h3
          by_cases h4 : F 4 = k
          · have h4' : (F 4 != k) = false := by simpa using h4
            have h0' : (F 0 != nd) = true := by simpa using fun h => hset ⟨h3, h4, h⟩
            clear hset h3 h4
            go_wp2
            rw [HW1.out]
            go_roundw
            case rel => exact ⟨i + 1, Ao, No, co, m, by go_num, by omega, rfl, by omega, HS2, hO1, hb01⟩
            case measure => simp [intOf]; omega
          · have h4' : (F 4 != k) = true := by simpa using h4
            clear hset h3 h4
            go_wp2
            rw [HW1.out]
            go_roundw
            case rel => exact ⟨i + 1, Ao, No, co, m, by go_num, by omega, rfl, by omega, HS2, hO1, hb01⟩
            case measure => simp [intOf]; omega
        · have h3' : (F 3 != 1) = true := by simpa using h3
          clear hset h3
          go_wp2
          rw [HW1.out]
          go_roundw
          case rel => exact ⟨i + 1, Ao, No, co, m, by go_num, by omega, rfl, by omega, HS2, hO1, hb01⟩
          case measure => simp [intOf]; omega
    · obtain rfl : i = n := by omega
      have HE : Hid (m.length = No ∧ plain m = plain (P.isort ltQ (smps k nd l))) := Lib.hid ⟨HS.out.1, by rw [HS.out.2, List.take_of_length_le (by rw [HN.out]; omega)]⟩
      have hlt2 : ¬ ((i : Int) < (i : Int)) := by omega
      have HLI : Hid ((P.isort ltQ (smps k nd l)).length = No) := Lib.hid (by rw [← plain_len, ← HE.out.2, plain_len, HE.out.1])
      have hNc : No ≤ co := by
        obtain ⟨A0, c0, e0, hle, _⟩ := hO.row.form
        simp only [Value.slice.injEq] at e0
        rw [← HS.out.1, e0.2.2]
        exact hle
      have HFIN : Hid (∀ j : Nat, j ≤ No → (P.isort ltQ (smps k nd l)).take j = newQ k nd sz l → ROfPost (newQ k nd sz l) w (.returned (.slice Ao j co)) wr) := Lib.hid (fun j hj h => ⟨Ao, j, co, m.take j, rfl, by rw [List.length_take, HE.out.1]; omega, by rw [plain_takeN, HE.out.2, ← plain_takeN, h], hO.prefix hj HE.out.1, hb⟩)
      clear hO HS
      by_cases hz0 : sz ≤ 0
      · have hto := run_eto Ao No co 0 (Nat.zero_le _) wr
        have hz2 : ¬ (0 < sz) := by omega
        have hz3 : ¬ ((No : Int) < sz) := by omega
        have hz4 : sz ≤ (No : Int) := by omega
        have HZ : Hid (sz.toNat = 0) := Lib.hid (by omega)
        have hmx : max (0 : Int) sz = 0 := by omega
        have hmn : min sz (No : Int) = sz := by omega
        go_wp2
        go_ret
        exact HFIN.out 0 (Nat.zero_le _) (by unfold newQ; rw [HZ.out])
      · by_cases hzN : sz ≤ (No : Int)
        · obtain ⟨z, rfl⟩ := Int.eq_ofNat_of_zero_le (show 0 ≤ sz by omega)
          have hto := run_eto Ao No co z (by omega) wr
          have hz2 : 0 < (z : Int) := by omega
          have hz3 : ¬ ((No : Int) < (z : Int)) := by omega
          have hz4 : (z : Int) ≤ (No : Int) := by omega
          have hz5 : z ≤ No := by omega
          have hz6 : ¬ ((z : Int) < 0) := by omega
          have hmx : max (0 : Int) (z : Int) = (z : Int) := by omega
          have hmn : min (z : Int) (No : Int) = (z : Int) := by omega
          go_wp2
          go_ret
          exact HFIN.out z hz5 (by unfold newQ; rw [Int.toNat_natCast])
        · have HZ : Hid (No ≤ sz.toNat) := Lib.hid (by omega)
          have HFN := Lib.hid (HFIN.out No (Nat.le_refl _) (by unfold newQ; rw [List.take_of_length_le (by rw [HLI.out]; exact Nat.le_refl _), List.take_of_length_le (by rw [HLI.out]; exact HZ.out)]))
          have hto := run_eto Ao No co No hNc wr
          clear hz0
          by_cases hN0 : No = 0
          · subst hN0
            have hz3 : (0 : Int) < sz := by omega
            have hz4 : ((0 : Nat) : Int) < sz := by omega
            clear hzN
            go_wp2
            go_ret
            exact HFN.out
          · have hz2 : (0 : Int) < (No : Int) := by omega
            have hz3 : (No : Int) < sz := by omega
            clear hzN hN0
            go_wp2
            go_ret
            exact HFN.out
end Go.Proofs.Ytodlifbhpgphcaa
