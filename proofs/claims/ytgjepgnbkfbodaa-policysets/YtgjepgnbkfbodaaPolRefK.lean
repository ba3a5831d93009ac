/- Layer 9, the document's own: Works. -/
import Derived.Test.YtgjepgnbkfbodaaPolMath5
import Derived.Test.YtgjepgnbkfbodaaPolPutI
import Derived.Deep.CutBlock
import Derived.Deep.DeepCutAuto
namespace Go.Proofs.Ytgjepgnbkfbodaa
set_option linter.unusedVariables false
set_option linter.unusedSimpArgs false
open Go.ChangeShapes Go.WideShapes Go.ChangeAt Go.RowKit

/-- These numbers are the workloads of Sets among these events, each once, in order. -/
def WksOf (l : List EvV) (ws : List Int) : Prop := ws.Pairwise (· < ·) ∧ ∀ x, x ∈ ws ↔ ∃ e ∈ l, e.F 3 = 2 ∧ e.F 4 = x
theorem WksOf.start : WksOf [] [] := ⟨List.Pairwise.nil, fun x => by simp⟩
theorem WksOf.no {l : List EvV} {i : Nat} {ws : List Int} (h : WksOf (l.take i) ws) (hi : i < l.length) (hk : l[i].F 3 ≠ 2) : WksOf (l.take (i + 1)) ws := by
  refine ⟨h.1, fun x => ?_⟩
  rw [h.2 x, List.take_succ_eq_append_getElem hi]
  constructor
  · rintro ⟨e, he, r⟩; exact ⟨e, List.mem_append_left _ he, r⟩
  · rintro ⟨e, he, r⟩
    rcases List.mem_append.1 he with he | he
    · exact ⟨e, he, r⟩
    · simp at he; subst he; exact absurd r.1 hk
theorem WksOf.old {l : List EvV} {i : Nat} {ws : List Int} {x : Int} (h : WksOf (l.take i) ws) (hi : i < l.length) (hx : l[i].F 4 = x) (hm : x ∈ ws) : WksOf (l.take (i + 1)) ws := by
  refine ⟨h.1, fun y => ?_⟩
  rw [List.take_succ_eq_append_getElem hi]
  constructor
  · intro hy
    obtain ⟨e, he, r⟩ := (h.2 y).1 hy
    exact ⟨e, List.mem_append_left _ he, r⟩
  · rintro ⟨e, he, r⟩
    rcases List.mem_append.1 he with he | he
    · exact (h.2 y).2 ⟨e, he, r⟩
    · simp at he; subst he; rw [← r.2, hx]; exact hm
theorem WksOf.put {l : List EvV} {i k : Nat} {ws : List Int} {x : Int} (h : WksOf (l.take i) ws) (hi : i < l.length) (h3 : l[i].F 3 = 2) (hx : l[i].F 4 = x) (hs : WSrch ws x k false) (he : k = ws.length ∨ ∃ h : k < ws.length, x < ws[k]) : WksOf (l.take (i + 1)) (ws.take k ++ [x] ++ ws.drop k) := by
  have e1 : ws.take k ++ [x] ++ ws.drop k = ws.take k ++ x :: ws.drop k := by simp
  rw [e1]
  refine ⟨hs.put h.1 he, fun y => ?_⟩
  rw [mem_put, List.take_succ_eq_append_getElem hi]
  constructor
  · rintro (rfl | hy)
    · exact ⟨l[i], List.mem_append_right _ (List.mem_singleton.2 rfl), h3, hx⟩
    · obtain ⟨e, he, r⟩ := (h.2 y).1 hy
      exact ⟨e, List.mem_append_left _ he, r⟩
  · rintro ⟨e, he, r⟩
    rcases List.mem_append.1 he with he | he
    · exact .inr ((h.2 y).2 ⟨e, he, r⟩)
    · simp at he; subst he; exact .inl (by rw [← r.2, hx])
def RWorksPost (l : List EvV) (w : World) (e : Ending) (w' : World) : Prop :=
  ∃ (A : Option Addr) (N c : Nat) (ws : List Int), e = .returned (.slice A N c) ∧ N = ws.length ∧ Rds w' (fun b => w.heap.size ≤ b) A (ws.map (Value.int .i64)) ∧ WksOf l ws ∧ Below w.heap.size w w'

set_option maxRecDepth 100000 in
set_option maxHeartbeats 4000000 in
theorem rworks_any (S : Nat → Prop) (A : Option Addr) (n c : Nat) (l : List EvV) (w : World) (hn : l.length = n) (hr : ERds w S A l) (hl : n ≤ 900000) :
    Calls Try.prog 17 #[.slice A n c] w (RWorksPost l w) := by
  have HN := Lib.hid hn
  have HR := Lib.hid hr
  clear hn hr
  obtain ⟨i0, hi0, hz0, hz1, hz2⟩ := info_parts Try.rowIntK
  have HI := Lib.hid hi0
  have HZ := Lib.hid (And.intro hz0 (And.intro hz1 hz2))
  clear hi0 hz0 hz1 hz2
  go_enter Try.func17, Try.ntmps17
  go_wp2_with fail
  go_loopw [3, 11] (fun ov iv wr => ∃ (i : Nat) (Ao : Option Addr) (No co : Nat) (ws : List Int), iv = .int .i64 i ∧ i ≤ n ∧ ov = .slice Ao No co ∧ No ≤ i ∧ Hid (ws.length = No ∧ WksOf (l.take i) ws) ∧ wr.ownsRow w.heap.size 3 1 (.slice Ao No co) No (i64s ws) ∧ Below w.heap.size w wr) (fun _ iv _ => n - (intOf iv).toNat)
  case atStart => exact ⟨0, none, 0, 0, [], rfl, by omega, rfl, by omega, Lib.hid ⟨rfl, WksOf.start⟩, World.ownsRow_nil _ _ _ _, Below.refl _ _⟩
  case round =>
    obtain ⟨i, Ao, No, co, ws, rfl, hi, rfl, hNi, HS, hO, hb⟩ := hrel
    by_cases hlt : i < n
    · have hlt' : i < l.length := by rw [HN.out]; exact hlt
      have hiN : (i : Int) < (n : Int) := by omega
      obtain ⟨ad, rfl, _, _, c0, c1, c2, c3, c4, c5, c6, c7, c8, c9, c10, c11, c12, c13⟩ := (HR.out.new hb).cells hlt'
      obtain ⟨x, hx⟩ : ∃ x, x = l[i] := ⟨_, rfl⟩
      rw [← hx] at c0 c1 c2 c3 c4 c5 c6 c7 c8 c9 c10 c11 c12 c13
      have HX := Lib.hid hx
      obtain ⟨F, M, Ax, cx⟩ := x
      simp only at c0 c1 c2 c3 c4 c5 c6 c7 c8 c9 c10 c11 c12 c13
      obtain ⟨q, hq⟩ : ∃ q, M.length = q := ⟨_, rfl⟩
      rw [hq] at c13
      obtain ⟨w1, hw1⟩ : ∃ W, wr.alloc (.cells (ecs F Ax q cx) 34) = W := ⟨_, rfl⟩
      have hb1 : Below wr.heap.size wr w1 := by rw [← hw1]; exact b_alloc _ _
      obtain ⟨gx, hgx⟩ : ∃ g, g = wr.heap.size := ⟨_, rfl⟩
      have hE1 : Blo w1 gx 34 (ecs F Ax q cx) := by rw [← hw1, hgx]; exact Blo.made _ _ _
      have hO1 := own_newI hO hb1
      have hb01 := below_new hb hb1
      have HW1 := Lib.hid hw1
      have HGX := Lib.hid hgx
      clear hx hq hw1 hgx
      by_cases hset : F 3 = 2
      · have HSE : Hid (l[i].F 3 = 2 ∧ l[i].F 4 = F 4) := Lib.hid (by rw [← HX.out]; exact ⟨hset, rfl⟩)
        have h3' : (F 3 != 2) = false := by simpa using hset
        clear hset hO hb
        go_upto_block 2 with fail
        rw [HW1.out, ← HGX.out]
        clear c0 c1 c2 c3 c4 c5 c6 c7 c8 c9 c10 c11 c12 c13 h3'
        go_cut [6, 7] (fun tv bv wx => ∃ (t : Nat) (b : Bool), tv = .int .i64 t ∧ bv = .bool b ∧ t ≤ No ∧ Hid (WSrch ws (F 4) t b ∧ (t = ws.length ∨ ∃ h : t < ws.length, F 4 < ws[t])) ∧ Below w1.heap.size w1 wx)
        case first =>
         go_wp2_with fail
         go_loopw [6, 7] (fun tv bv wr => ∃ (t : Nat) (b : Bool), tv = .int .i64 t ∧ bv = .bool b ∧ t ≤ No ∧ Hid (WSrch ws (F 4) t b) ∧ Below w1.heap.size w1 wr) (fun tv _ _ => No - (intOf tv).toNat)
         case atStart => exact ⟨0, false, rfl, rfl, by omega, Lib.hid (WSrch.start _ _), Below.refl _ _⟩
         case round =>
          obtain ⟨t, b, rfl, rfl, ht, HP, hbt⟩ := hrel
          by_cases ht0 : t < No
          · have htl : t < ws.length := by rw [HS.out.1]; exact ht0
            have hrd := own_rds (own_newI hO1 hbt)
            obtain ⟨am, rfl, _, hy0⟩ := hrd.at (j := t) (by simpa using htl)
            obtain ⟨y, hy⟩ : ∃ y, y = ws[t] := ⟨_, rfl⟩
            have HYW := Lib.hid hy
            simp only [i64s, List.getElem_map] at hy0
            rw [← hy] at hy0
            have HY : Hid (∀ V, Grows wr V → V.cell? (am.add t) = some (.int .i64 y)) := Lib.hid (fun V hV => cell_up hy0 hV)
            have hEt := hE1.new hbt
            have HEX : Hid (∀ V, Grows wr V → _) := Lib.hid (fun V hV => set14 (hEt.new hV))
            clear hy hy0 hrd hEt
            have htN : (t : Int) < (No : Int) := by omega
            have hpt : 0 ≤ (t : Int) ∧ (t : Int) < (No : Int) := by omega
            have htt : ((t : Int)).toNat = t := by omega
            have hdc : decide ((t : Int) < (No : Int)) = true := by simpa using htN
            by_cases hyx : y ≤ F 4
            · have hdy : decide (y ≤ F 4) = true := by simpa using hyx
              obtain ⟨z, hz⟩ : ∃ z, z = (b || (y == F 4)) := ⟨_, rfl⟩
              have HST : Hid (WSrch ws (F 4) (t + 1) z) := Lib.hid (by
                have := HP.out.step htl (by rw [← HYW.out]; exact hyx)
                rw [← HYW.out] at this
                rw [hz]; exact this)
              have ek : IntKind.i64.wrap ((t : Int) + 1) = ((t + 1 : Nat) : Int) := by rw [IntWalk.i64_in _ (by omega)]; omega
              go_wp2_with fail
              refine wp_fam (n := 13) (size := 61) (D := [18, 19, 20, 21, 22, 23, 24, 25, 26, 27, 28, 29, 30]) [(18, isV (.int .i64 (t : Int))), (19, isV (.slice (some am) No co)), (20, isV (.int .i64 (No : Int))), (21, isV (.bool true)), (22, isV (.bool true)), (23, isV (.slice (some am) No co)), (24, isV (.int .i64 (t : Int))), (25, isV (.pointer (some (am.add t)))), (26, isV (.int .i64 y)), (27, isV (.pointer (some ⟨gx, 4, none⟩))), (28, isV (.int .i64 (F 4))), (29, isV (.bool true)), (30, isV (.bool true))] (by kernel_rfl) (by rfl) (by kernel_rfl) ?_ ?_
              · simp only [List.take_succ_cons, List.take_zero, famAll]
                repeat' apply And.intro
                · intro f V hg hl
                  simp [Oper.looksAt, Op.operands, Call.operands, famAt, famOf, isV] at hl
                  simp [famWants, boolIs_bool, boolIs_undef, execOp, rho, go_sem, hl, famUpon, famOf, isV, Grows.refl]
                · intro f V hg hl
                  simp [Oper.looksAt, Op.operands, Call.operands, famAt, famOf, isV] at hl
                  simp [famWants, boolIs_bool, boolIs_undef, execOp, rho, go_sem, hl, famUpon, famOf, isV, Grows.refl]
                · intro f V hg hl
                  simp [Oper.looksAt, Op.operands, Call.operands, famAt, famOf, isV] at hl
                  simp [famWants, boolIs_bool, boolIs_undef, execOp, rho, go_sem, hl, famUpon, famOf, isV, Grows.refl]
                · intro f V hg hl
                  simp [Oper.looksAt, Op.operands, Call.operands, famAt, famOf, isV] at hl
                  simp [famWants, boolIs_bool, boolIs_undef, execOp, rho, go_sem, hl, htN, hdc, famUpon, famOf, isV, Grows.refl]
                · intro f V hg hl
                  simp [Oper.looksAt, Op.operands, Call.operands, famAt, famOf, isV] at hl
                  simp [famWants, boolIs_bool, boolIs_undef, execOp, rho, go_sem, hl, famUpon, famOf, isV, Grows.refl]
                · intro f V hg hl
                  simp [Oper.looksAt, Op.operands, Call.operands, famAt, famOf, isV] at hl
                  simp [famWants, boolIs_bool, boolIs_undef, execOp, rho, go_sem, hl, famUpon, famOf, isV, Grows.refl]
                · intro f V hg hl
                  simp [Oper.looksAt, Op.operands, Call.operands, famAt, famOf, isV] at hl
                  simp [famWants, boolIs_bool, boolIs_undef, execOp, rho, go_sem, hl, famUpon, famOf, isV, Grows.refl]
                · intro f V hg hl
                  simp [Oper.looksAt, Op.operands, Call.operands, famAt, famOf, isV] at hl
                  simp [famWants, boolIs_bool, boolIs_undef, execOp, rho, go_sem, hl, hpt, htt, famUpon, famOf, isV, Grows.refl]
                · intro f V hg hl
                  have hy := HY.out V hg
                  simp [Oper.looksAt, Op.operands, Call.operands, famAt, famOf, isV] at hl
                  simp [famWants, boolIs_bool, boolIs_undef, execOp, rho, go_sem, hl, hy, famUpon, famOf, isV, Grows.refl]
                · intro f V hg hl
                  simp [Oper.looksAt, Op.operands, Call.operands, famAt, famOf, isV] at hl
                  simp [famWants, boolIs_bool, boolIs_undef, execOp, rho, go_sem, hl, famUpon, famOf, isV, Grows.refl]
                · intro f V hg hl
                  obtain ⟨c0, c1, c2, c3, c4, c5, c6, c7, c8, c9, c10, c11, c12, c13⟩ := HEX.out V hg
                  simp [Oper.looksAt, Op.operands, Call.operands, famAt, famOf, isV] at hl
                  simp [famWants, boolIs_bool, boolIs_undef, execOp, rho, go_sem, hl, c4, famUpon, famOf, isV, Grows.refl]
                · intro f V hg hl
                  simp [Oper.looksAt, Op.operands, Call.operands, famAt, famOf, isV] at hl
                  simp [famWants, boolIs_bool, boolIs_undef, execOp, rho, go_sem, hl, hdy, hyx, famUpon, famOf, isV, Grows.refl]
                · intro f V hg hl
                  simp [Oper.looksAt, Op.operands, Call.operands, famAt, famOf, isV] at hl
                  simp [famWants, boolIs_bool, boolIs_undef, execOp, rho, go_sem, hl, famUpon, famOf, isV, Grows.refl]
                · trivial
              · intro u V hgV hu
                have e30 : u 30 = .bool true := hu 30 (by decide)
                simp only [List.drop_succ_cons, List.drop_zero, fill, Act.put, List.setIfInBounds_toArray, List.set_cons_zero, List.set_cons_succ, e30]
                refine wpList_nil ?_
                have hbV := below_new hbt hgV
                have HY2 : Hid (∀ V', Grows V V' → V'.cell? (am.add t) = some (.int .i64 y)) := Lib.hid (fun V' hV => HY.out V' (below_new hgV hV))
                have HEX2 : Hid (∀ V', Grows V V' → _) := Lib.hid (fun V' hV => HEX.out V' (below_new hgV hV))
                clear hu e30 HEX HY hgV
                cases b with
                | true =>
                  obtain rfl : z = true := by rw [hz]; rfl
                  clear hz
                  go_wp2_with fail
                  refine wp_fam (n := 10) (size := 61) (D := [31, 32, 33, 34, 35, 36, 37, 38, 39, 40]) [(31, isV (.bool true)), (32, isV (.bool true)), (33, isV (undef)), (34, isV (undef)), (35, isV (undef)), (36, isV (undef)), (37, isV (undef)), (38, isV (undef)), (39, isV (undef)), (40, isV (.bool true))] (by kernel_rfl) (by rfl) (by kernel_rfl) ?_ ?_
                  · simp only [List.take_succ_cons, List.take_zero, famAll]
                    repeat' apply And.intro
                    · intro f V hg hl
                      simp [Oper.looksAt, Op.operands, Call.operands, famAt, famOf, isV] at hl
                      simp [famWants, boolIs_bool, boolIs_undef, execOp, rho, go_sem, hl, famUpon, famOf, isV, Grows.refl]
                    · intro f V hg hl
                      simp [Oper.looksAt, Op.operands, Call.operands, famAt, famOf, isV] at hl
                      simp [famWants, boolIs_bool, boolIs_undef, execOp, rho, go_sem, hl, famUpon, famOf, isV, Grows.refl]
                    · intro f V hg hl
                      simp [Oper.looksAt, Op.operands, Call.operands, famAt, famOf, isV] at hl
                      simp [famWants, boolIs_bool, boolIs_undef, execOp, rho, go_sem, hl, famUpon, famOf, isV, Grows.refl]
                    · intro f V hg hl
                      simp [Oper.looksAt, Op.operands, Call.operands, famAt, famOf, isV] at hl
                      simp [famWants, boolIs_bool, boolIs_undef, execOp, rho, go_sem, hl, famUpon, famOf, isV, Grows.refl]
                    · intro f V hg hl
                      simp [Oper.looksAt, Op.operands, Call.operands, famAt, famOf, isV] at hl
                      simp [famWants, boolIs_bool, boolIs_undef, execOp, rho, go_sem, hl, famUpon, famOf, isV, Grows.refl]
                    · intro f V hg hl
                      simp [Oper.looksAt, Op.operands, Call.operands, famAt, famOf, isV] at hl
                      simp [famWants, boolIs_bool, boolIs_undef, execOp, rho, go_sem, hl, famUpon, famOf, isV, Grows.refl]
                    · intro f V hg hl
                      simp [Oper.looksAt, Op.operands, Call.operands, famAt, famOf, isV] at hl
                      simp [famWants, boolIs_bool, boolIs_undef, execOp, rho, go_sem, hl, famUpon, famOf, isV, Grows.refl]
                    · intro f V hg hl
                      simp [Oper.looksAt, Op.operands, Call.operands, famAt, famOf, isV] at hl
                      simp [famWants, boolIs_bool, boolIs_undef, execOp, rho, go_sem, hl, famUpon, famOf, isV, Grows.refl]
                    · intro f V hg hl
                      simp [Oper.looksAt, Op.operands, Call.operands, famAt, famOf, isV] at hl
                      simp [famWants, boolIs_bool, boolIs_undef, execOp, rho, go_sem, hl, famUpon, famOf, isV, Grows.refl]
                    · intro f V hg hl
                      simp [Oper.looksAt, Op.operands, Call.operands, famAt, famOf, isV] at hl
                      simp [famWants, boolIs_bool, boolIs_undef, execOp, rho, go_sem, hl, famUpon, famOf, isV, Grows.refl]
                    · trivial
                  · intro u V2 hgV2 hu
                    have e40 : u 40 = .bool true := hu 40 (by decide)
                    simp only [List.drop_succ_cons, List.drop_zero, fill, Act.put, List.setIfInBounds_toArray, List.set_cons_zero, List.set_cons_succ, e40]
                    refine ?_
                    have hbV2 := below_new hbV hgV2
                    clear hu e40 HEX2 HY2 hgV2
                    go_wp2
                    go_roundw
                    case rel => exact ⟨t + 1, true, (by first | rfl | go_num), rfl, by omega, HST, hbV2⟩
                    case measure => simp [intOf]; omega
                | false =>
                  have hz' : z = (y == F 4) := by rw [hz]; rfl
                  clear hz
                  have hz := hz'.symm
                  clear hz'
                  go_wp2_with fail
                  refine wp_fam (n := 10) (size := 61) (D := [31, 32, 33, 34, 35, 36, 37, 38, 39, 40]) [(31, isV (.bool false)), (32, isV (.bool false)), (33, isV (.slice (some am) No co)), (34, isV (.int .i64 (t : Int))), (35, isV (.pointer (some (am.add t)))), (36, isV (.int .i64 y)), (37, isV (.pointer (some ⟨gx, 4, none⟩))), (38, isV (.int .i64 (F 4))), (39, isV (.bool z)), (40, isV (.bool z))] (by kernel_rfl) (by rfl) (by kernel_rfl) ?_ ?_
                  · simp only [List.take_succ_cons, List.take_zero, famAll]
                    repeat' apply And.intro
                    · intro f V hg hl
                      simp [Oper.looksAt, Op.operands, Call.operands, famAt, famOf, isV] at hl
                      simp [famWants, boolIs_bool, boolIs_undef, execOp, rho, go_sem, hl, famUpon, famOf, isV, Grows.refl]
                    · intro f V hg hl
                      simp [Oper.looksAt, Op.operands, Call.operands, famAt, famOf, isV] at hl
                      simp [famWants, boolIs_bool, boolIs_undef, execOp, rho, go_sem, hl, famUpon, famOf, isV, Grows.refl]
                    · intro f V hg hl
                      simp [Oper.looksAt, Op.operands, Call.operands, famAt, famOf, isV] at hl
                      simp [famWants, boolIs_bool, boolIs_undef, execOp, rho, go_sem, hl, famUpon, famOf, isV, Grows.refl]
                    · intro f V hg hl
                      simp [Oper.looksAt, Op.operands, Call.operands, famAt, famOf, isV] at hl
                      simp [famWants, boolIs_bool, boolIs_undef, execOp, rho, go_sem, hl, famUpon, famOf, isV, Grows.refl]
                    · intro f V hg hl
                      simp [Oper.looksAt, Op.operands, Call.operands, famAt, famOf, isV] at hl
                      simp [famWants, boolIs_bool, boolIs_undef, execOp, rho, go_sem, hl, hpt, htt, famUpon, famOf, isV, Grows.refl]
                    · intro f V hg hl
                      have hy := HY2.out V hg
                      simp [Oper.looksAt, Op.operands, Call.operands, famAt, famOf, isV] at hl
                      simp [famWants, boolIs_bool, boolIs_undef, execOp, rho, go_sem, hl, hy, famUpon, famOf, isV, Grows.refl]
                    · intro f V hg hl
                      simp [Oper.looksAt, Op.operands, Call.operands, famAt, famOf, isV] at hl
                      simp [famWants, boolIs_bool, boolIs_undef, execOp, rho, go_sem, hl, famUpon, famOf, isV, Grows.refl]
                    · intro f V hg hl
                      obtain ⟨c0, c1, c2, c3, c4, c5, c6, c7, c8, c9, c10, c11, c12, c13⟩ := HEX2.out V hg
                      simp [Oper.looksAt, Op.operands, Call.operands, famAt, famOf, isV] at hl
                      simp [famWants, boolIs_bool, boolIs_undef, execOp, rho, go_sem, hl, c4, famUpon, famOf, isV, Grows.refl]
                    · intro f V hg hl
                      simp [Oper.looksAt, Op.operands, Call.operands, famAt, famOf, isV] at hl
                      simp [famWants, boolIs_bool, boolIs_undef, execOp, rho, go_sem, hl, hz, famUpon, famOf, isV, Grows.refl]
                    · intro f V hg hl
                      simp [Oper.looksAt, Op.operands, Call.operands, famAt, famOf, isV] at hl
                      simp [famWants, boolIs_bool, boolIs_undef, execOp, rho, go_sem, hl, famUpon, famOf, isV, Grows.refl]
                    · trivial
                  · intro u V2 hgV2 hu
                    have e40 : u 40 = .bool z := hu 40 (by decide)
                    simp only [List.drop_succ_cons, List.drop_zero, fill, Act.put, List.setIfInBounds_toArray, List.set_cons_zero, List.set_cons_succ, e40]
                    refine ?_
                    have hbV2 := below_new hbV hgV2
                    clear hu e40 HEX2 HY2 hgV2
                    go_wp2
                    go_roundw
                    case rel => exact ⟨t + 1, z, (by first | rfl | go_num), rfl, by omega, HST, hbV2⟩
                    case measure => simp [intOf]; omega
            · have hdy : decide (y ≤ F 4) = false := by simpa using hyx
              have HST : Hid (WSrch ws (F 4) t b ∧ (t = ws.length ∨ ∃ h : t < ws.length, F 4 < ws[t])) := Lib.hid ⟨HP.out, .inr ⟨htl, by rw [← HYW.out]; omega⟩⟩
              go_wp2_with fail
              refine wp_fam (n := 13) (size := 61) (D := [18, 19, 20, 21, 22, 23, 24, 25, 26, 27, 28, 29, 30]) [(18, isV (.int .i64 (t : Int))), (19, isV (.slice (some am) No co)), (20, isV (.int .i64 (No : Int))), (21, isV (.bool true)), (22, isV (.bool true)), (23, isV (.slice (some am) No co)), (24, isV (.int .i64 (t : Int))), (25, isV (.pointer (some (am.add t)))), (26, isV (.int .i64 y)), (27, isV (.pointer (some ⟨gx, 4, none⟩))), (28, isV (.int .i64 (F 4))), (29, isV (.bool false)), (30, isV (.bool false))] (by kernel_rfl) (by rfl) (by kernel_rfl) ?_ ?_
              · simp only [List.take_succ_cons, List.take_zero, famAll]
                repeat' apply And.intro
                · intro f V hg hl
                  simp [Oper.looksAt, Op.operands, Call.operands, famAt, famOf, isV] at hl
                  simp [famWants, boolIs_bool, boolIs_undef, execOp, rho, go_sem, hl, famUpon, famOf, isV, Grows.refl]
                · intro f V hg hl
                  simp [Oper.looksAt, Op.operands, Call.operands, famAt, famOf, isV] at hl
                  simp [famWants, boolIs_bool, boolIs_undef, execOp, rho, go_sem, hl, famUpon, famOf, isV, Grows.refl]
                · intro f V hg hl
                  simp [Oper.looksAt, Op.operands, Call.operands, famAt, famOf, isV] at hl
                  simp [famWants, boolIs_bool, boolIs_undef, execOp, rho, go_sem, hl, famUpon, famOf, isV, Grows.refl]
                · intro f V hg hl
                  simp [Oper.looksAt, Op.operands, Call.operands, famAt, famOf, isV] at hl
                  simp [famWants, boolIs_bool, boolIs_undef, execOp, rho, go_sem, hl, htN, hdc, famUpon, famOf, isV, Grows.refl]
                · intro f V hg hl
                  simp [Oper.looksAt, Op.operands, Call.operands, famAt, famOf, isV] at hl
                  simp [famWants, boolIs_bool, boolIs_undef, execOp, rho, go_sem, hl, famUpon, famOf, isV, Grows.refl]
                · intro f V hg hl
                  simp [Oper.looksAt, Op.operands, Call.operands, famAt, famOf, isV] at hl
                  simp [famWants, boolIs_bool, boolIs_undef, execOp, rho, go_sem, hl, famUpon, famOf, isV, Grows.refl]
                · intro f V hg hl
                  simp [Oper.looksAt, Op.operands, Call.operands, famAt, famOf, isV] at hl
                  simp [famWants, boolIs_bool, boolIs_undef, execOp, rho, go_sem, hl, famUpon, famOf, isV, Grows.refl]
                · intro f V hg hl
                  simp [Oper.looksAt, Op.operands, Call.operands, famAt, famOf, isV] at hl
                  simp [famWants, boolIs_bool, boolIs_undef, execOp, rho, go_sem, hl, hpt, htt, famUpon, famOf, isV, Grows.refl]
                · intro f V hg hl
                  have hy := HY.out V hg
                  simp [Oper.looksAt, Op.operands, Call.operands, famAt, famOf, isV] at hl
                  simp [famWants, boolIs_bool, boolIs_undef, execOp, rho, go_sem, hl, hy, famUpon, famOf, isV, Grows.refl]
                · intro f V hg hl
                  simp [Oper.looksAt, Op.operands, Call.operands, famAt, famOf, isV] at hl
                  simp [famWants, boolIs_bool, boolIs_undef, execOp, rho, go_sem, hl, famUpon, famOf, isV, Grows.refl]
                · intro f V hg hl
                  obtain ⟨c0, c1, c2, c3, c4, c5, c6, c7, c8, c9, c10, c11, c12, c13⟩ := HEX.out V hg
                  simp [Oper.looksAt, Op.operands, Call.operands, famAt, famOf, isV] at hl
                  simp [famWants, boolIs_bool, boolIs_undef, execOp, rho, go_sem, hl, c4, famUpon, famOf, isV, Grows.refl]
                · intro f V hg hl
                  simp [Oper.looksAt, Op.operands, Call.operands, famAt, famOf, isV] at hl
                  simp [famWants, boolIs_bool, boolIs_undef, execOp, rho, go_sem, hl, hdy, hyx, famUpon, famOf, isV, Grows.refl]
                · intro f V hg hl
                  simp [Oper.looksAt, Op.operands, Call.operands, famAt, famOf, isV] at hl
                  simp [famWants, boolIs_bool, boolIs_undef, execOp, rho, go_sem, hl, famUpon, famOf, isV, Grows.refl]
                · trivial
              · intro u V hgV hu
                have e30 : u 30 = .bool false := hu 30 (by decide)
                simp only [List.drop_succ_cons, List.drop_zero, fill, Act.put, List.setIfInBounds_toArray, List.set_cons_zero, List.set_cons_succ, e30]
                refine wpList_nil ?_
                have hbV := below_new hbt hgV
                clear hu e30 HEX HY hgV
                go_wp2_with fail
                go_meet
                exact ⟨t, b, rfl, rfl, by omega, HST, hbV⟩
          · obtain rfl : t = No := by omega
            have HST : Hid (WSrch ws (F 4) t b ∧ (t = ws.length ∨ ∃ h : t < ws.length, F 4 < ws[t])) := Lib.hid ⟨HP.out, .inl HS.out.1.symm⟩
            have htN : ¬ (t : Int) < (t : Int) := by omega
            go_wp2_with fail
            refine wp_fam (n := 13) (size := 61) (D := [18, 19, 20, 21, 22, 23, 24, 25, 26, 27, 28, 29, 30]) [(18, isV (.int .i64 (t : Int))), (19, isV (.slice Ao t co)), (20, isV (.int .i64 (t : Int))), (21, isV (.bool false)), (22, isV (.bool false)), (23, isV (undef)), (24, isV (undef)), (25, isV (undef)), (26, isV (undef)), (27, isV (undef)), (28, isV (undef)), (29, isV (undef)), (30, isV (.bool false))] (by kernel_rfl) (by rfl) (by kernel_rfl) ?_ ?_
            · simp only [List.take_succ_cons, List.take_zero, famAll]
              repeat' apply And.intro
              · intro f V hg hl
                simp [Oper.looksAt, Op.operands, Call.operands, famAt, famOf, isV] at hl
                simp [famWants, boolIs_bool, boolIs_undef, execOp, rho, go_sem, hl, famUpon, famOf, isV, Grows.refl]
              · intro f V hg hl
                simp [Oper.looksAt, Op.operands, Call.operands, famAt, famOf, isV] at hl
                simp [famWants, boolIs_bool, boolIs_undef, execOp, rho, go_sem, hl, famUpon, famOf, isV, Grows.refl]
              · intro f V hg hl
                simp [Oper.looksAt, Op.operands, Call.operands, famAt, famOf, isV] at hl
                simp [famWants, boolIs_bool, boolIs_undef, execOp, rho, go_sem, hl, famUpon, famOf, isV, Grows.refl]
              · intro f V hg hl
                simp [Oper.looksAt, Op.operands, Call.operands, famAt, famOf, isV] at hl
                simp [famWants, boolIs_bool, boolIs_undef, execOp, rho, go_sem, hl, famUpon, famOf, isV, Grows.refl]
              · intro f V hg hl
                simp [Oper.looksAt, Op.operands, Call.operands, famAt, famOf, isV] at hl
                simp [famWants, boolIs_bool, boolIs_undef, execOp, rho, go_sem, hl, famUpon, famOf, isV, Grows.refl]
              · intro f V hg hl
                simp [Oper.looksAt, Op.operands, Call.operands, famAt, famOf, isV] at hl
                simp [famWants, boolIs_bool, boolIs_undef, execOp, rho, go_sem, hl, famUpon, famOf, isV, Grows.refl]
              · intro f V hg hl
                simp [Oper.looksAt, Op.operands, Call.operands, famAt, famOf, isV] at hl
                simp [famWants, boolIs_bool, boolIs_undef, execOp, rho, go_sem, hl, famUpon, famOf, isV, Grows.refl]
              · intro f V hg hl
                simp [Oper.looksAt, Op.operands, Call.operands, famAt, famOf, isV] at hl
                simp [famWants, boolIs_bool, boolIs_undef, execOp, rho, go_sem, hl, famUpon, famOf, isV, Grows.refl]
              · intro f V hg hl
                simp [Oper.looksAt, Op.operands, Call.operands, famAt, famOf, isV] at hl
                simp [famWants, boolIs_bool, boolIs_undef, execOp, rho, go_sem, hl, famUpon, famOf, isV, Grows.refl]
              · intro f V hg hl
                simp [Oper.looksAt, Op.operands, Call.operands, famAt, famOf, isV] at hl
                simp [famWants, boolIs_bool, boolIs_undef, execOp, rho, go_sem, hl, famUpon, famOf, isV, Grows.refl]
              · intro f V hg hl
                simp [Oper.looksAt, Op.operands, Call.operands, famAt, famOf, isV] at hl
                simp [famWants, boolIs_bool, boolIs_undef, execOp, rho, go_sem, hl, famUpon, famOf, isV, Grows.refl]
              · intro f V hg hl
                simp [Oper.looksAt, Op.operands, Call.operands, famAt, famOf, isV] at hl
                simp [famWants, boolIs_bool, boolIs_undef, execOp, rho, go_sem, hl, famUpon, famOf, isV, Grows.refl]
              · intro f V hg hl
                simp [Oper.looksAt, Op.operands, Call.operands, famAt, famOf, isV] at hl
                simp [famWants, boolIs_bool, boolIs_undef, execOp, rho, go_sem, hl, famUpon, famOf, isV, Grows.refl]
              · trivial
            · intro u V hgV hu
              have e30 : u 30 = .bool false := hu 30 (by decide)
              simp only [List.drop_succ_cons, List.drop_zero, fill, Act.put, List.setIfInBounds_toArray, List.set_cons_zero, List.set_cons_succ, e30]
              refine wpList_nil ?_
              have hbV := below_new hbt hgV
              clear hu e30 hgV
              go_wp2_with fail
              go_meet
              exact ⟨t, b, rfl, rfl, by omega, HST, hbV⟩
        case rest =>
          obtain ⟨t, b, rfl, rfl, ht, HP, hbt⟩ := hcut
          have hOc := own_newI hO1 hbt
          have hEc := hE1.new hbt
          have hbc := below_new hb01 hbt
          have hBc : w.heap.size ≤ wc.heap.size := hbc.size
          cases b with
          | true =>
            have HS2 : Hid (ws.length = No ∧ WksOf (l.take (i + 1)) ws) := Lib.hid ⟨HS.out.1, HS.out.2.old hlt' HSE.out.2 HP.out.1.yes⟩
            clear hEc hO1 hE1
            go_wp2
            go_roundw
            case rel => exact ⟨i + 1, Ao, No, co, ws, by go_num, by omega, rfl, by omega, HS2, hOc, hbc⟩
            case measure => simp [intOf]; omega
          | false =>
            have HS2 : Hid (WksOf (l.take (i + 1)) (ws.take t ++ [F 4] ++ ws.drop t)) := Lib.hid (HS.out.2.put hlt' HSE.out.1 HSE.out.2 HP.out.1 HP.out.2)
            have hNc : No ≤ co := by
              obtain ⟨A0, c0, e0, hle, _⟩ := own_form hOc
              simp only [Value.slice.injEq] at e0
              rw [e0.2.2]
              exact hle
            obtain ⟨w8, hw8⟩ : ∃ W, wc.alloc (.cells #[] 3) = W := ⟨_, rfl⟩
            have hb8 : Below wc.heap.size wc w8 := by rw [← hw8]; exact b_alloc _ _
            have hs8 := hb8.size
            have hR8 : w8.ownsRow wc.heap.size 3 1 (.slice (some ⟨wc.heap.size, 0, none⟩) 0 0) 0 [] := by rw [← hw8]; exact World.ownsRow_lit wc #[] 0 (Nat.le_refl _) (by unfold maxLen; omega) rfl
            have hto := run_ito Ao No co t (Nat.le_trans ht hNc) w8
            have hrd8 : Rds w8 (fun _ => True) Ao (i64s (ws.take t)) := by
              have h1 := ((own_rds hOc).take t).new hb8
              rw [← List.map_take] at h1
              exact h1.mono fun _ _ => trivial
            have hlk : (ws.take t).length = t := by rw [List.length_take, HS.out.1]; omega
            have HLM : Hid ((i64s (ws.take t)).length = t) := Lib.hid (by rw [List.length_map]; exact hlk)
            have HDR : Hid (Rds wc (fun b => b < wc.heap.size) (if co = t then Ao else Ao.map (·.add t)) (i64s (ws.drop t))) := Lib.hid (by
              have h1 := Rds.cut (k := t) (c := co) (own_rds hOc) (by rw [List.length_map, HS.out.1]; exact hNc)
              rw [← List.map_drop] at h1
              exact h1.old.mono fun b hb => hb.2)
            have HFR : Hid (∀ W, (Instr.slice 37 (.slice Ao No co) (some (.int .i64 (t : Int))) none none).run Try.prog W = .ok (.slice (if co = t then Ao else Ao.map (·.add t)) (No - t) (co - t)) W) := Lib.hid (fun W => run_ifrom Ao No co t ht W)
            obtain ⟨Ad, hAd⟩ : ∃ x, x = if co = t then Ao else Ao.map (·.add t) := ⟨_, rfl⟩
            obtain ⟨nd, hnd⟩ : ∃ x, x = No - t := ⟨_, rfl⟩
            obtain ⟨cd, hcd⟩ : ∃ x, x = co - t := ⟨_, rfl⟩
            rw [← hAd] at HDR HFR
            rw [← hnd, ← hcd] at HFR
            have HND : Hid ((ws.drop t).length = nd) := Lib.hid (by rw [List.length_drop, HS.out.1, hnd])
            have HNK : Hid (t + 1 + nd = No + 1) := Lib.hid (by omega)
            have HW8 := Lib.hid hw8
            have HLK := Lib.hid hlk
            rw [← hw8] at hto hrd8 hR8 hs8
            clear hw8 hAd hnd hcd hlk hOc hO1 hE1
            go_wp2_with (at_builtin; refine wpList_app _ rfl _ _ 37 rfl wc.heap.size 3 i0 _ 8 Try.underlying37 HI.out HZ.out.1 HZ.out.2.1 HZ.out.2.2 rfl _ 0 [] rfl hR8 (fun _ => True) Ao t co (i64s (ws.take t)) rfl HLM.out hrd8 (one_ints _ _) (by unfold maxLen; omega) (by omega) hs8 ?_)
            intro v9 w9 hr9 hg9 hv9
            rw [HW8.out] at hg9
            obtain ⟨A8, c8, rfl, _⟩ := own_form hr9
            have hr9 : w9.ownsRow wc.heap.size 3 1 (.slice A8 t c8) t (i64s (ws.take t)) := by simpa [i64s, List.map_take] using hr9
            have hb89 : Below wc.heap.size wc w9 := hb8.grown hg9 hb8.size (fun k hk => by simp [Value.ownBlock] at hk; omega)
            have hB9 : wc.heap.size ≤ w9.heap.size := hb89.size
            have HDR9 : Hid (Rds w9 (fun b => b < wc.heap.size) Ad (i64s (ws.drop t))) := Lib.hid (HDR.out.new hb89)
            try rw [Nat.zero_add]
            have HX0 : Hid (∀ f : Nat → Value, f 3 = .slice Ao No co → PutI w9 wc.heap.size gx (ecs F Ax q cx) (F 4) (.slice A8 t c8) (.slice Ao No co) (ws.take t) (ws.drop t) (fun _ => false) f w9) := Lib.hid (fun f hf => ⟨⟨Below.refl _ _, Nat.le_refl _⟩, hEc.new hb89, fun _ => hf, fun e => (by cases e), fun _ => (by rw [HLK.out]; exact hr9), fun e => (by cases e), fun e => (by cases e)⟩)
            have HB89 := Lib.hid hb89
            clear hto hrd8 hR8 hr9 hg9 hv9 hb8 hs8 hb89 hEc
            go_upto_region 12 with fail
            refine wp_famZ (size := 61) (D := [50, 51, 52, 53, 54, 55, 56, 57, 58, 3]) [2, 3, 4, 5, 8, 9] [53, 54, 58, 3] [(50, isV (.slice A8 t c8)), (51, isV (.pointer (some ⟨gx, 4, none⟩))), (52, isV (.int .i64 (F 4))), (55, isV (.slice Ao No co)), (56, isV (.int .i64 (t : Int))), (57, isV (.slice Ad nd cd))] (PutI w9 wc.heap.size gx (ecs F Ax q cx) (F 4) (.slice A8 t c8) (.slice Ao No co) (ws.take t) (ws.drop t)) (PutI.up hB9) (by kernel_rfl) (by rfl) (by kernel_rfl) (HX0.out _ rfl) ?_ ?_
            · simp only [famAllZ]
              repeat' apply And.intro
              · rw [if_neg (by decide)]
                intro f W hl
                simp [Oper.looksAt, Op.operands, Call.operands, famAt, famOf, isV] at hl
                simp [famWants, execOp, rho, go_sem, hl, famUpon, famOf, isV, Grows.refl]
              · rw [if_neg (by decide)]
                intro f W hl
                simp [Oper.looksAt, Op.operands, Call.operands, famAt, famOf, isV] at hl
                simp [famWants, execOp, rho, go_sem, hl, famUpon, famOf, isV, Grows.refl]
              · rw [if_pos (by decide)]
                intro L f W hi hcl hwt hX hl
                simp [Oper.looksAt, Op.operands, Call.operands, famAt, famOf, isV] at hl
                obtain ⟨z0, z1, z2, z3, z4, z5, z6, z7, z8, z9, z10, z11, z12, z13⟩ := set14 hX.2.1
                simp [famWants, execOp, rho, go_sem, hl, z4, famUpon, famOf, isV]
                exact hX.pass
              · rw [if_pos (by decide)]
                intro L f W hi hcl hwt hX hl
                simp [Oper.looksAt, Op.operands, Call.operands, famAt, famOf, isV] at hl
                have h4 : L 4 = false := by
                  cases e : L 4 with
                  | false => rfl
                  | true => rw [hcl 4 3 (by kernel_rfl) e] at hi; cases hi
                have h8 : L 8 = false := by
                  cases e : L 8 with
                  | false => rfl
                  | true => rw [hcl 8 4 (by kernel_rfl) e] at h4; cases h4
                have hfin := hX.lit hB9 h4 h8
                simp [famWants, execOp, rho, go_sem, hl, famUpon, famOf, isV]
                exact hfin
              · rw [if_pos (by decide)]
                intro L f W hi hcl hwt hX hl
                simp [Oper.looksAt, Op.operands, Call.operands, famAt, famOf, isV] at hl
                have h8 : L 8 = false := by
                  cases e : L 8 with
                  | false => rfl
                  | true => rw [hcl 8 4 (by kernel_rfl) e] at hi; cases hi
                have h3 : L 3 = true := hwt 3 (by kernel_rfl)
                obtain ⟨b, e53, v, W', hrun, hfin⟩ := hX.app hB9 h3 hi h8 (by rw [HLK.out]; omega)
                refine ⟨fun _ => ?_, fun hh => ?_⟩
                · simp only [execOp, resolve, invoke, builtin, rho, Sem.run_bind, Sem.run_pure, Result.andThen_ok, List.map_toArray, List.map_cons, List.map_nil, hl, e53, hrun, famUpon]
                  exact ⟨fun d hd => by cases hd; exact trivial, hfin⟩
                · simp [famWants] at hh
              · rw [if_pos (by decide)]
                intro L f W hi hcl hwt hX hl
                simp [Oper.looksAt, Op.operands, Call.operands, famAt, famOf, isV] at hl
                have e3 := hX.2.2.1 hi
                simp [famWants, execOp, rho, go_sem, e3, famUpon, famOf, isV]
                exact hX.mv
              · rw [if_neg (by decide)]
                intro f W hl
                simp [Oper.looksAt, Op.operands, Call.operands, famAt, famOf, isV] at hl
                simp [famWants, execOp, rho, go_sem, hl, famUpon, famOf, isV, Grows.refl]
              · rw [if_neg (by decide)]
                intro f W hl
                simp [Oper.looksAt, Op.operands, Call.operands, famAt, famOf, isV] at hl
                have h9 := run_atI (HFR.out W)
                simp [famWants, execOp, rho, go_sem, hl, h9, famUpon, famOf, isV, Grows.refl]
              · rw [if_pos (by decide)]
                intro L f W hi hcl hwt hX hl
                simp [Oper.looksAt, Op.operands, Call.operands, famAt, famOf, isV] at hl
                have h9 : L 9 = false := by
                  cases e : L 9 with
                  | false => rfl
                  | true => rw [hcl 9 8 (by kernel_rfl) e] at hi; cases hi
                have h4 : L 4 = true := hwt 4 (by kernel_rfl)
                obtain ⟨A2, c2, e54, v, W', hrun, hfin⟩ := hX.app2 hB9 h4 hi h9 HND.out (T := fun b => b < wc.heap.size) (Ah := Ad) (ch := cd) (HDR9.out.below hX.1.1 (fun b hb _ => hb)) (by rw [HLK.out, HND.out]; have := HNK.out; omega)
                rw [HLK.out] at e54 hrun
                refine ⟨fun _ => ?_, fun hh => ?_⟩
                · simp only [execOp, resolve, invoke, builtin, rho, Sem.run_bind, Sem.run_pure, Result.andThen_ok, List.map_toArray, List.map_cons, List.map_nil, hl, e54, hrun, famUpon]
                  exact ⟨fun d hd => by cases hd; exact trivial, hfin⟩
                · simp [famWants] at hh
              · rw [if_pos (by decide)]
                intro L f W hi hcl hwt hX hl
                simp [Oper.looksAt, Op.operands, Call.operands, famAt, famOf, isV] at hl
                have h8 : L 8 = true := hwt 8 (by kernel_rfl)
                have h4 : L 4 = true := hcl 8 4 (by kernel_rfl) h8
                have h3 : L 3 = true := hcl 4 3 (by kernel_rfl) h4
                have h5 : L 5 = true := hwt 5 (by kernel_rfl)
                obtain ⟨A3, c3, e58, _⟩ := hX.2.2.2.2.2.2 h8
                rw [HLK.out, HND.out] at e58
                simp [famWants, execOp, rho, go_sem, e58, famUpon, famOf, isV]
                exact hX.set h3 h4 h5 h8 e58
              · trivial
            · intro L' u W hL hX hu
              obtain ⟨q1, A3, c3, e3, q4⟩ := hX.fin (hL 8 (by decide)) (hL 9 (by decide))
              simp only [fill, Act.put, List.setIfInBounds_toArray, List.set_cons_zero, List.set_cons_succ, e3]
              refine wpList_nil ?_
              rw [HLK.out, HND.out] at q4 ⊢
              have hbW : Below w.heap.size w W := (below_new hbc HB89.out).trans (q1.mono hBc)
              have HS3 : Hid ((ws.take t ++ [F 4] ++ ws.drop t).length = t + 1 + nd ∧ WksOf (l.take (i + 1)) (ws.take t ++ [F 4] ++ ws.drop t)) := Lib.hid ⟨by rw [List.length_append, List.length_append, HLK.out, HND.out]; rfl, HS2.out⟩
              clear hu hL hX HX0 e3
              go_wp2
              go_roundw
              case rel => exact ⟨i + 1, A3, _, c3, _, by go_num, by omega, rfl, by have := HNK.out; omega, HS3, own_mono q4 hBc, hbW⟩
              case measure => simp [intOf]; omega
      · have h3' : (F 3 != 2) = true := by simpa using hset
        have HS2 : Hid (ws.length = No ∧ WksOf (l.take (i + 1)) ws) := Lib.hid ⟨HS.out.1, HS.out.2.no hlt' (by rw [← HX.out]; exact hset)⟩
        clear hset
        go_wp2
        rw [HW1.out]
        go_roundw
        case rel => exact ⟨i + 1, Ao, No, co, ws, by go_num, by omega, rfl, by omega, HS2, hO1, hb01⟩
        case measure => simp [intOf]; omega
    · obtain rfl : i = n := by omega
      have HE : Hid (No = ws.length ∧ WksOf l ws) := Lib.hid ⟨HS.out.1.symm, by have := HS.out.2; rwa [List.take_of_length_le (by rw [HN.out]; omega)] at this⟩
      have hlt2 : ¬ ((i : Int) < (i : Int)) := by omega
      go_wp2
      go_ret
      exact ⟨Ao, No, co, ws, rfl, HE.out.1, (own_rds hO).mono fun b hb => hb.1, HE.out.2, hb⟩
end Go.Proofs.Ytgjepgnbkfbodaa
