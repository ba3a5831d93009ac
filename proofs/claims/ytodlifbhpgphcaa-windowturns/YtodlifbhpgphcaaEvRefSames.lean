/- Layer 7, the document's own: All (of the same). -/
import Derived.Test.YtodlifbhpgphcaaEvMem
import Derived.Test.YtodlifbhpgphcaaEvRefSame
import Derived.Test.YtodlifbhpgphcaaFam
namespace Go.Proofs.Ytodlifbhpgphcaa
set_option linter.unusedVariables false
set_option linter.unusedSimpArgs false
open Go.ChangeShapes Go.WideShapes Go.ChangeAt Go.RowKit

/-- Events that are the same in all that counts. -/
def Alike (l m : List EvV) : Prop := l.length = m.length ∧ ∀ i (hi : i < l.length) (hj : i < m.length), l[i].M = m[i].M ∧ ∀ k, k < 13 → l[i].F k = m[i].F k
theorem alike_plain {l m : List EvV} (h : plain l = plain m) : Alike l m := by
  have hl : l.length = m.length := by rw [← plain_len l, h, plain_len]
  refine ⟨hl, fun i hi hj => ?_⟩
  have h1 : (plain l)[i]? = (plain m)[i]? := by rw [h]
  simp [plain, hi, hj] at h1
  exact ⟨h1.2, fun k _ => by rw [h1.1]⟩
/-- The cells of an event at an address. -/
def EvAt (w : World) (p : Addr) (F : Nat → Int) (A : Option Addr) (n c : Nat) : Prop :=
  w.cell? p = some (.int .i64 (F 0)) ∧ ∀ k v, 0 < k → (ecs F A n c)[k]? = some v → w.cell? ⟨p.block, p.off + k, none⟩ = some v
theorem EvAt.up {w w' : World} {p : Addr} {F : Nat → Int} {A : Option Addr} {n c : Nat} (h : EvAt w p F A n c) (hg : Grows w w') : EvAt w' p F A n c := ⟨cell_up h.1 hg, fun k v hk hv => cell_up (h.2 k v hk hv) hg⟩
theorem EvAt.all {w : World} {p : Addr} {F : Nat → Int} {A : Option Addr} {n c : Nat} (h : EvAt w p F A n c) :
    w.cell? p = some (.int .i64 (F 0)) ∧ w.cell? ⟨p.block, p.off + 1, none⟩ = some (.int .i64 (F 1)) ∧ w.cell? ⟨p.block, p.off + 2, none⟩ = some (.int .i64 (F 2)) ∧ w.cell? ⟨p.block, p.off + 3, none⟩ = some (.int .i64 (F 3)) ∧ w.cell? ⟨p.block, p.off + 4, none⟩ = some (.int .i64 (F 4)) ∧ w.cell? ⟨p.block, p.off + 5, none⟩ = some (.int .i64 (F 5)) ∧ w.cell? ⟨p.block, p.off + 6, none⟩ = some (.int .i64 (F 6)) ∧ w.cell? ⟨p.block, p.off + 7, none⟩ = some (.int .i64 (F 7)) ∧ w.cell? ⟨p.block, p.off + 8, none⟩ = some (.int .i64 (F 8)) ∧ w.cell? ⟨p.block, p.off + 9, none⟩ = some (.int .i64 (F 9)) ∧ w.cell? ⟨p.block, p.off + 10, none⟩ = some (.int .i64 (F 10)) ∧ w.cell? ⟨p.block, p.off + 11, none⟩ = some (.int .i64 (F 11)) ∧ w.cell? ⟨p.block, p.off + 12, none⟩ = some (.int .i64 (F 12)) ∧ w.cell? ⟨p.block, p.off + 13, none⟩ = some (.slice A n c) :=
  ⟨h.1, h.2 1 _ (by omega) rfl, h.2 2 _ (by omega) rfl, h.2 3 _ (by omega) rfl, h.2 4 _ (by omega) rfl, h.2 5 _ (by omega) rfl, h.2 6 _ (by omega) rfl, h.2 7 _ (by omega) rfl, h.2 8 _ (by omega) rfl, h.2 9 _ (by omega) rfl, h.2 10 _ (by omega) rfl, h.2 11 _ (by omega) rfl, h.2 12 _ (by omega) rfl, h.2 13 _ (by omega) rfl⟩

set_option maxRecDepth 100000 in
set_option maxHeartbeats 4000000 in
theorem eall_yes (S T : Nat → Prop) (A B : Option Addr) (n c d : Nat) (l m : List EvV) (w : World) (hn : l.length = n) (hS : Alike l m) (hA : ERds w S A l) (hB : ERds w T B m) (hl : n ≤ maxLen) (hm : ∀ e ∈ l, e.M.length ≤ 1000000) :
    Calls Try.prog 10 #[.slice A n c, .slice B n d] w fun e w' => e = .returned (.bool true) ∧ Below w.heap.size w w' := by
  have HN := Lib.hid hn
  have HM := Lib.hid hm
  have HS := Lib.hid hS
  unfold maxLen at hl
  clear hn hm hS
  go_enter Try.func10, Try.ntmps10
  go_wp2_with fail
  go_loopw [13] (fun iv wr => ∃ i : Nat, iv = .int .i64 i ∧ i ≤ n ∧ Below w.heap.size w wr) (fun iv _ => n - (intOf iv).toNat)
  case atStart => exact ⟨0, rfl, by omega, Below.refl _ _⟩
  case round =>
    obtain ⟨i, rfl, hi, hb⟩ := hrel
    by_cases hlt : i < n
    · have hi1 : (i : Int) < (n : Int) := by omega
      have hlt1 : i < l.length := by rw [HN.out]; exact hlt
      have hlt2 : i < m.length := by rw [← HS.out.1]; exact hlt1
      obtain ⟨ad, rfl, _, a0, ak, har⟩ := (hA.new hb).ev hlt1
      obtain ⟨bd, rfl, _, b0, bk, hbr⟩ := (hB.new hb).ev hlt2
      obtain ⟨hMM, hFF⟩ := HS.out.2 i hlt1 hlt2
      have hxl : l[i].M.length ≤ 1000000 := HM.out _ (List.getElem_mem hlt1)
      obtain ⟨x, hx⟩ : ∃ x, x = l[i] := ⟨_, rfl⟩
      obtain ⟨y, hy⟩ : ∃ y, y = m[i] := ⟨_, rfl⟩
      rw [← hx] at a0 ak har hMM hFF hxl
      rw [← hy] at b0 bk hbr hMM hFF
      have hEA : EvAt wr (ad.add (i * 14)) x.F x.A x.M.length x.c := ⟨a0, ak⟩
      have hEB : EvAt wr (bd.add (i * 14)) y.F y.A y.M.length y.c := ⟨b0, bk⟩
      have HEA : Hid (∀ V, Grows wr V → _) := Lib.hid (fun V hV => (hEA.up hV).all)
      have HEB : Hid (∀ V, Grows wr V → _) := Lib.hid (fun V hV => (hEB.up hV).all)
      have HCA : Hid (∀ V, Grows wr V → Calls Try.prog 19 #[ev x.F x.A x.M.length x.c, ev y.F y.A y.M.length y.c] V fun e w' => e = .returned (.bool true) ∧ Below V.heap.size V w') := Lib.hid (fun V hV => by
        have h1 : ev y.F y.A y.M.length y.c = ev x.F y.A x.M.length y.c := by rw [ev_congr (fun k hk => (hFF k hk).symm), hMM]
        rw [h1]
        exact esame_yes _ _ x.F x.A y.A x.M.length x.c y.c x.M V rfl (har.new hV) (by rw [hMM]; exact hbr.new hV) hxl)
      clear hx hy hEA hEB a0 ak har b0 bk hbr hMM hFF hxl
      obtain ⟨xF, xM, xA, xc⟩ := x
      obtain ⟨yF, yM, yA, yc⟩ := y
      simp only at HEA HEB HCA
      obtain ⟨xn, hxn⟩ : ∃ q, q = xM.length := ⟨_, rfl⟩
      obtain ⟨yn, hyn⟩ : ∃ q, q = yM.length := ⟨_, rfl⟩
      rw [← hxn] at HEA HCA
      rw [← hyn] at HEB HCA
      clear hxn hyn
      go_wp2_with fail
      refine wp_fam (n := 10) (size := 27) (D := [16, 17, 18, 19, 20, 21, 22, 23, 24, 25]) [(16, isV (.slice (some ad) n c)), (17, isV (.int .i64 (i : Int))), (18, isV (.pointer (some (ad.add (i * 14))))), (19, isV (ev xF xA xn xc)), (20, isV (.slice (some bd) n d)), (21, isV (.int .i64 (i : Int))), (22, isV (.pointer (some (bd.add (i * 14))))), (23, isV (ev yF yA yn yc)), (24, isV (.bool true)), (25, isV (.bool false))] (by kernel_rfl) (by rfl) (by kernel_rfl) ?_ ?_
      · simp only [List.take_succ_cons, List.take_zero, famAll]
        repeat' apply And.intro
        · intro f V hg hl
          simp [Oper.looksAt, Op.operands, Call.operands, famAt, famOf, isV] at hl
          simp [famWants, boolIs_bool, boolIs_undef, execOp, rho, go_sem, hl, famUpon, famOf, isV, Grows.refl]
        · intro f V hg hl
          simp [Oper.looksAt, Op.operands, Call.operands, famAt, famOf, isV] at hl
          simp [famWants, boolIs_bool, boolIs_undef, execOp, rho, go_sem, hl, famUpon, famOf, isV, Grows.refl]
        · intro f V hg hl
          simp [Oper.looksAt, Op.operands, Call.operands, famAt, famOf, isV] at hl
          simp [famWants, boolIs_bool, boolIs_undef, execOp, rho, go_sem, hl, hi1, hlt, famUpon, famOf, isV, Grows.refl]
        · intro f V hg hl
          obtain ⟨c0, c1, c2, c3, c4, c5, c6, c7, c8, c9, c10, c11, c12, c13⟩ := HEA.out V hg
          simp [Oper.looksAt, Op.operands, Call.operands, famAt, famOf, isV] at hl
          simp [famWants, boolIs_bool, boolIs_undef, execOp, rho, go_sem, hl, c0, c1, c2, c3, c4, c5, c6, c7, c8, c9, c10, c11, c12, c13, famUpon, famOf, isV, Grows.refl]
        · intro f V hg hl
          simp [Oper.looksAt, Op.operands, Call.operands, famAt, famOf, isV] at hl
          simp [famWants, boolIs_bool, boolIs_undef, execOp, rho, go_sem, hl, famUpon, famOf, isV, Grows.refl]
        · intro f V hg hl
          simp [Oper.looksAt, Op.operands, Call.operands, famAt, famOf, isV] at hl
          simp [famWants, boolIs_bool, boolIs_undef, execOp, rho, go_sem, hl, famUpon, famOf, isV, Grows.refl]
        · intro f V hg hl
          simp [Oper.looksAt, Op.operands, Call.operands, famAt, famOf, isV] at hl
          simp [famWants, boolIs_bool, boolIs_undef, execOp, rho, go_sem, hl, hi1, hlt, famUpon, famOf, isV, Grows.refl]
        · intro f V hg hl
          obtain ⟨c0, c1, c2, c3, c4, c5, c6, c7, c8, c9, c10, c11, c12, c13⟩ := HEB.out V hg
          simp [Oper.looksAt, Op.operands, Call.operands, famAt, famOf, isV] at hl
          simp [famWants, boolIs_bool, boolIs_undef, execOp, rho, go_sem, hl, c0, c1, c2, c3, c4, c5, c6, c7, c8, c9, c10, c11, c12, c13, famUpon, famOf, isV, Grows.refl]
        · intro f V hg hl
          simp [Oper.looksAt, Op.operands, Call.operands, famAt, famOf, isV] at hl
          simp [famWants, boolIs_bool, boolIs_undef, execOp, rho, go_sem, hl, famUpon, famOf, isV, Grows.refl]
          refine (HCA.out V hg).mono ?_
          rintro e w'' ⟨rfl, hb'⟩
          exact ⟨rfl, hb'⟩
        · intro f V hg hl
          simp [Oper.looksAt, Op.operands, Call.operands, famAt, famOf, isV] at hl
          simp [famWants, boolIs_bool, boolIs_undef, execOp, rho, go_sem, hl, famUpon, famOf, isV, Grows.refl]
        · trivial
      · intro u V hg hu
        have e25 : u 25 = .bool false := hu 25 (by decide)
        simp only [List.drop_succ_cons, List.drop_zero, fill, Act.put, List.setIfInBounds_toArray, List.set_cons_zero, List.set_cons_succ, e25]
        refine wpList_nil ?_
        have hb2 := below_new hb hg
        clear hu e25 HEA HEB HCA
        go_wp2
        go_roundw
        case rel => exact ⟨i + 1, by go_num, by omega, hb2⟩
        case measure => simp [intOf]; omega
    · go_wp2
      go_ret
      exact ⟨rfl, hb⟩
end Go.Proofs.Ytodlifbhpgphcaa
