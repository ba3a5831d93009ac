/- Layer 13: the document's own Append, Swap, Do. -/
import Derived.Test.YtfllebfegngdhaaDkRef
import Derived.Test.YtfllebfegngdhaaFam
namespace Go.Proofs.Ytfllebfegngdhaa
set_option linter.unusedVariables false
set_option linter.unusedSimpArgs false
open Go.ChangeShapes Go.WideShapes Go.ChangeAt Go.RowKit Go.Deep

/-- In a region that draws its order: a slice of this length; an empty row of its own; a row of its own; a unit that swaps it in; a row of that unit. -/
def lenV (N : Nat) : StG := ⟨fun u _ => ∃ A c, u = .slice A N c, fun _ _ _ _ h => h⟩
def emptyV (B : Nat) : StG := ⟨fun u w => ∃ p, u = .slice (some p) 0 0 ∧ ByR w (fun b => B ≤ b) (.slice (some p) 0 0) [], fun _ _ _ h ⟨p, e, k⟩ => ⟨p, e, k.new h⟩⟩
def byV (B : Nat) (xs : List Int) : StG := ⟨fun u w => ∃ A c, u = .slice A xs.length c ∧ ByR w (fun b => B ≤ b) (.slice A xs.length c) xs, fun _ _ _ h ⟨A, c, e, k⟩ => ⟨A, c, e, k.new h⟩⟩
def unV (B : Nat) (xs : List Int) : StG := ⟨fun u w => ∃ A c, u = .agg #[.int .u8 0, .bool true, .slice A xs.length c] ∧ ByR w (fun b => B ≤ b) (.slice A xs.length c) xs, fun _ _ _ h ⟨A, c, e, k⟩ => ⟨A, c, e, k.new h⟩⟩
def rowV (B : Nat) (xs : List Int) : StG := ⟨fun u w => ∃ p A c, u = .slice (some p) 1 1 ∧ ByR w (fun b => B ≤ b) (.slice A xs.length c) xs ∧ Rds w (fun _ => True) (some p) (Dk.wcs [⟨0, true, .slice A xs.length c, xs⟩]), fun _ _ _ h ⟨p, A, c, e, k, r⟩ => ⟨p, A, c, e, k.new h, r.new h⟩⟩

theorem ByR.otherO {fp : Nat → Prop} {w w' : World} {v : Value} {xs : List Int} (h : ByR w fp v xs) {o : Option Nat} {t : TypeId} (hg : w.grownBy w' o) (ho : ∀ b, o = some b → ∃ cs, Blo w b t cs) (ht : 5 ≠ t) : ByR w' fp v xs :=
  ⟨own_keepK h.own fun b e hl => hg.block b hl fun e' => by
    obtain ⟨cs, hc⟩ := own_typed h.own e
    obtain ⟨cs', hc'⟩ := ho b e'.symm
    exact Blo.typeNe hc hc' ht rfl, h.inn⟩
/-- One unit more, and its row stored. -/
theorem mdk_push {w w3 w4 : World} {fp : Nat → Prop} {g : Nat} {Z : Int} {lv : Value} {L : List Int} {wv v' : Value} {l : List Dk.W} (h : MDk w fp g Z lv L wv l) (hb : Below w.heap.size w w3) (x : Dk.W)
    (hx : ByR w3 (fun b => fp b ∨ w.heap.size ≤ b) x.v x.xs) (hr : WRow w4 0 v' (l ++ [x])) (hg : w3.grownBy w4 wv.ownBlock) (hv : v'.ownBlock = wv.ownBlock ∨ v'.ownBlock = some w3.heap.size) :
    Blo w4 g 66 #[.int .i64 Z, lv, wv] ∧ MDk (w4.setCell ⟨g, 2, none⟩ v') (fun b => fp b ∨ w.heap.size ≤ b) g Z lv L v' (l ++ [x]) ∧ Kp fp w (w4.setCell ⟨g, 2, none⟩ v') := by
  have h3 := h.keep (w' := w3) fun b _ hl => hb.block b hl
  have hs := hb.size
  have hs4 := hg.size
  have ho : ∀ b, wv.ownBlock = some b → ∃ cs, Blo w3 b 79 cs := fun b e => own_typed h3.row e
  have hB4 : Blo w4 g 66 #[.int .i64 Z, lv, wv] := h3.blo.keep (hg.block g h3.blo.lt fun e => by
    obtain ⟨cs, hc⟩ := ho g e.symm
    exact Blo.typeNe hc h3.blo (by decide) rfl)
  have hg5 : w4.grownBy (w4.setCell ⟨g, 2, none⟩ v') (some g) := gb_set (World.grownBy.refl _ _) (.inl rfl) _
  have hlt : ∀ b, wv.ownBlock = some b → fp b := h.rowi
  refine ⟨hB4, ⟨by simpa using hB4.put 2 v', .inl h.inn, ((h3.lasts.otherO hg ho (by decide)).other hg5 hB4 (by decide)).mono fun b hb _ => .inl hb, ?_, ?_, ?_⟩, ?_⟩
  · exact own_keepK hr fun b e hl => hg5.block b hl fun e' => by
      injection e' with e'
      subst e'
      obtain ⟨cs, hc⟩ := own_typed hr e
      exact Blo.typeNe hc hB4 (by decide) rfl
  · intro b e
    rcases hv with hv | hv
    · rw [hv] at e; exact .inl (hlt b e)
    · rw [hv] at e; injection e with e; exact .inr (by omega)
  · intro y hy
    rcases List.mem_append.1 hy with hy | hy
    · exact (((h3.swaps y hy).otherO hg ho (by decide)).other hg5 hB4 (by decide)).mono fun b hb _ => .inl hb
    · have : y = x := by simpa using hy
      subst this
      exact (hx.otherO hg ho (by decide)).other hg5 hB4 (by decide)
  · exact ((Kp.of hb).trans (fq := fp) (Kp.gb hg fun k e => .inl (hlt k e)) fun b => .inl).trans (fq := fp) (kp_set (p := ⟨g, 2, none⟩) h.inn _) fun b => .inl

/-- What Append, Swap answer and leave. -/
def Dk.apE (Z : Int) (L : List Int) (us : List Dk.U) (xs : List Int) : Int := if Z < ((Dk.aft L us).length : Int) + xs.length then 7 else 0
def Dk.apU (Z : Int) (L : List Int) (us : List Dk.U) (xs : List Int) : List Dk.U := if Z < ((Dk.aft L us).length : Int) + xs.length then us else us ++ xs.map .b
def Dk.swE (Z : Int) (xs : List Int) : Int := if Z < (xs.length : Int) then 7 else 0
def Dk.swU (Z : Int) (us : List Dk.U) (xs : List Int) : List Dk.U := if Z < (xs.length : Int) then us else us ++ [.s xs]

set_option maxRecDepth 100000 in
set_option maxHeartbeats 4000000 in
theorem rappend_any {w : World} {fp : Nat → Prop} {g : Nat} {Z : Int} {L : List Int} {us : List Dk.U} (hM : MD w fp g Z L us) (hO : Dk.Ok Z L us) (hl : us.length ≤ 900000000)
    (S : Nat → Prop) (A : Option Addr) (n c : Nat) (xs : List Int) (hn : xs.length = n) (hr : Rds w S A (u8s xs)) (hS : ∀ b, S b → b < w.heap.size → ¬ fp b) (hn47 : n ≤ 140737488355328) :
    Calls Try.prog 18 #[.pointer (some ⟨g, 0, none⟩), .slice A n c] w (DskPost (.int .i64 (Dk.apE Z L us xs)) Z L (Dk.apU Z L us xs) fp g w) := by
  obtain ⟨N, hN⟩ : ∃ N, N = (Dk.aft L us).length := ⟨_, rfl⟩
  have hN0 : (N : Int) ≤ Z := by rw [hN]; exact hO.last
  have hZ := hO.hi
  have hwr : IntKind.i64.wrap ((N : Int) + n) = (N : Int) + n := IntWalk.i64_in _ (by omega)
  have HRd : Hid (∀ V, Grows w V → Calls Try.prog 28 #[.pointer (some ⟨g, 0, none⟩)] V fun e w' => ∃ A c, e = .returned (.slice A N c) ∧ True ∧ Below V.heap.size V w') := Lib.hid (fun V hV => (rread_any (hM.new hV) hO (by omega)).mono fun e w' ⟨A, c, e, _, hb⟩ => ⟨A, c, by rw [hN]; exact e, trivial, hb⟩)
  have HC : Hid (∀ V, Grows w V → V.cell? ⟨g, 0, none⟩ = some (.int .i64 Z)) := Lib.hid (fun V hV => by
    obtain ⟨lv, A, c, l, _, _, _, hM, _⟩ := (hM.new hV).cells
    exact (mdk_cells hM.blo).1)
  obtain ⟨bb, hbb⟩ : ∃ bb, bb = decide (Z < (N : Int) + n) := ⟨_, rfl⟩
  have HE : Hid (Dk.apE Z L us xs = if bb then 7 else 0) := Lib.hid (by unfold Dk.apE; rw [hbb, ← hN, hn]; by_cases h : Z < (N : Int) + n <;> simp [h])
  have HU : Hid (Dk.apU Z L us xs = if bb then us else us ++ xs.map .b) := Lib.hid (by unfold Dk.apU; rw [hbb, ← hN, hn]; by_cases h : Z < (N : Int) + n <;> simp [h])
  have HN := Lib.hid hn
  have hbb' := hbb.symm
  clear hN hn hO
  go_enter Try.func18, Try.ntmps18
  go_wp2_with fail
  refine wp_fam (n := 11) (size := 36) (D := [7, 8, 9, 10, 11, 12, 13, 14, 15, 16, 17]) [(7, isV (.pointer (some ⟨g, 0, none⟩))), (8, lenV N), (9, isV (.int .i64 (N : Int))), (10, isV (.slice A n c)), (11, isV (.int .i64 (n : Int))), (12, isV (.int .i64 ((N : Int) + n))), (13, isV (.pointer (some ⟨g, 0, none⟩))), (14, isV (.pointer (some ⟨g, 0, none⟩))), (15, isV (.pointer (some ⟨g, 0, none⟩))), (16, isV (.int .i64 Z)), (17, isV (.bool bb))] (by kernel_rfl) (by rfl) (by kernel_rfl) ?_ ?_
  · simp only [List.take_succ_cons, List.take_zero, famAll]
    repeat' apply And.intro
    · intro f V hg hl
      simp [Oper.looksAt, Op.operands, Call.operands, famAt, famOf, isV] at hl
      simp [famWants, boolIs_bool, boolIs_undef, execOp, rho, go_sem, hl, famUpon, famOf, isV, Grows.refl]
    · intro f V hg hl
      simp [Oper.looksAt, Op.operands, Call.operands, famAt, famOf, isV] at hl
      simp [famWants, boolIs_bool, boolIs_undef, execOp, rho, go_sem, hl, famUpon, famOf, isV, Grows.refl]
      refine (HRd.out V hg).mono ?_
      rintro e w'' ⟨B, d, rfl, hR, hb⟩
      exact ⟨_, rfl, hb, B, d, rfl⟩
    · intro f V hg hl
      simp [Oper.looksAt, Op.operands, Call.operands, famAt, famOf, isV] at hl
      obtain ⟨B, d, e8⟩ := hl
      subst_vars
      simp [famWants, boolIs_bool, boolIs_undef, execOp, rho, go_sem, e8, famUpon, famOf, isV, Grows.refl]
    · intro f V hg hl
      simp [Oper.looksAt, Op.operands, Call.operands, famAt, famOf, isV] at hl
      simp [famWants, boolIs_bool, boolIs_undef, execOp, rho, go_sem, hl, famUpon, famOf, isV, Grows.refl]
    · intro f V hg hl
      simp [Oper.looksAt, Op.operands, Call.operands, famAt, famOf, isV] at hl
      simp [famWants, boolIs_bool, boolIs_undef, execOp, rho, go_sem, hl, famUpon, famOf, isV, Grows.refl]
    · intro f V hg hl
      simp [Oper.looksAt, Op.operands, Call.operands, famAt, famOf, isV] at hl
      simp [famWants, boolIs_bool, boolIs_undef, execOp, rho, go_sem, hl, hwr, famUpon, famOf, isV, Grows.refl]
    · intro f V hg hl
      simp [Oper.looksAt, Op.operands, Call.operands, famAt, famOf, isV] at hl
      simp [famWants, boolIs_bool, boolIs_undef, execOp, rho, go_sem, hl, famUpon, famOf, isV, Grows.refl]
    · intro f V hg hl
      simp [Oper.looksAt, Op.operands, Call.operands, famAt, famOf, isV] at hl
      simp [famWants, boolIs_bool, boolIs_undef, execOp, rho, go_sem, hl, famUpon, famOf, isV, Grows.refl]
    · intro f V hg hl
      simp [Oper.looksAt, Op.operands, Call.operands, famAt, famOf, isV] at hl
      simp [famWants, boolIs_bool, boolIs_undef, execOp, rho, go_sem, hl, famUpon, famOf, isV, Grows.refl]
    · intro f V hg hl
      have k0 := HC.out V hg
      simp [Oper.looksAt, Op.operands, Call.operands, famAt, famOf, isV] at hl
      simp [famWants, boolIs_bool, boolIs_undef, execOp, rho, go_sem, hl, k0, famUpon, famOf, isV, Grows.refl]
    · intro f V hg hl
      simp [Oper.looksAt, Op.operands, Call.operands, famAt, famOf, isV] at hl
      simp [famWants, boolIs_bool, boolIs_undef, execOp, rho, go_sem, hl, hbb, famUpon, famOf, isV, Grows.refl]
    · trivial
  · intro u V hg hu
    have e17 : u 17 = .bool bb := hu 17 (by decide)
    simp only [List.drop_succ_cons, List.drop_zero, fill, Act.put, List.setIfInBounds_toArray, List.set_cons_zero, List.set_cons_succ, e17]
    refine wpList_nil ?_
    have hMV := hM.new hg
    have hrV := hr.new hg
    have hbV : Below w.heap.size w V := hg
    clear hu e17 hwr
    cases bb with
    | true =>
      go_wp2
      go_ret
      rw [HE.out, HU.out]
      exact ⟨rfl, hMV.mono fun b hb _ => .inl hb, Kp.of hbV⟩
    | false =>
      have hle : (N : Int) + n ≤ Z := by simpa using hbb'
      clear hbb hbb'
      go_wp2_with fail
      go_loopw [20] (fun iv wr => ∃ i : Nat, iv = .int .i64 i ∧ i ≤ n ∧ MD wr (fun b => fp b ∨ w.heap.size ≤ b) g Z L (us ++ (xs.take i).map .b) ∧ Kp fp w wr) (fun iv _ => n - (intOf iv).toNat)
      case atStart => exact ⟨0, rfl, Nat.zero_le _, by simpa using hMV.mono (fq := fun b => fp b ∨ w.heap.size ≤ b) fun b hb _ => .inl hb, Kp.of hbV⟩
      case round =>
        obtain ⟨i, rfl, hi, hM1, hK⟩ := hrel
        clear hMV
        by_cases hlt : i < n
        · have hil : i < xs.length := by rw [HN.out]; exact hlt
          obtain ⟨ad, rfl, _, c0⟩ := (hK.rds hr hS).int hil
          have HT : Hid (xs.take (i + 1) = xs.take i ++ [xs[i]]) := Lib.hid (List.take_succ_eq_append_getElem hil)
          generalize xs[i] = x at c0 HT
          obtain ⟨lv, Aw, cw, l, hus, hln, hcw, hMk, hrw⟩ := hM1.cells
          obtain ⟨q, hq⟩ : ∃ q, q = (us ++ (xs.take i).map Dk.U.b).length := ⟨_, rfl⟩
          rw [← hq] at hMk hln hcw
          have hqb : q ≤ 900000000 + 16384 := by rw [hq]; simp; omega
          have HQ := Lib.hid hus
          obtain ⟨w3, hw3⟩ : ∃ W, wr.alloc (.cells #[.int .u8 x, .bool false, .slice none 0 0] 79) = W := ⟨_, rfl⟩
          have hb3 : Below wr.heap.size wr w3 := by rw [← hw3]; exact b_alloc _ _
          have hlit : Rds w3 (fun _ => True) (some ⟨wr.heap.size, 0, none⟩) (Dk.wcs [⟨x, false, .slice none 0 0, []⟩]) := by rw [← hw3]; exact wlit_rds wr x false _ [] _
          have hM3 := hMk.keep (w' := w3) fun b _ hl => hb3.block b hl
          obtain ⟨k0, k1, k2, f0, f1, f2⟩ := mdk_cells hMk.blo
          obtain ⟨j0, j1, j2, g0, g1, g2⟩ := mdk_cells hM3.blo
          have hz3 : w3.heap.size = wr.heap.size + 1 := by rw [← hw3]; simp
          have hln' : l.length + 1 ≤ 1000000000 := by omega
          have hslc : ∀ y ∈ [(⟨x, false, .slice none 0 0, []⟩ : Dk.W)], Dk.Slc y.v := fun y hy => by rw [List.mem_singleton.1 hy]; exact ⟨_, _, _, rfl⟩
          clear hq hus hM1 hrw
          go_wp2_with (at_builtin; refine wpList_wapp _ rfl _ _ rfl 0 _ l rfl hM3.row (fun _ => True) ⟨wr.heap.size, 0, none⟩ 1 1 [⟨x, false, .slice none 0 0, []⟩] rfl rfl hlit hslc hln' (Nat.zero_le _) ?_)
          intro v4 w4 hr4 hg4 hv4
          rw [← hz3] at hv4
          obtain ⟨A4, c4, ev4, _, _⟩ := hr4.form
          obtain ⟨K, hKK⟩ : ∃ K, K = (l ++ [(⟨x, false, .slice none 0 0, []⟩ : Dk.W)]).length := ⟨_, rfl⟩
          rw [← hKK] at ev4
          subst ev4
          clear hKK
          obtain ⟨hB4, hfin, hK4⟩ := mdk_push hMk hb3 ⟨x, false, .slice none 0 0, []⟩ (ByR.nil _ _) hr4 hg4 hv4
          obtain ⟨m0, m1, m2, n0, n1, n2⟩ := mdk_cells hB4
          have hfin2 : MD (w4.setCell ⟨g, 2, none⟩ (.slice A4 K c4)) (fun b => fp b ∨ w.heap.size ≤ b) g Z L (us ++ (xs.take (i + 1)).map .b) := by
            have hs := hK.size
            refine ⟨lv, _, _, ?_, hfin.mono fun b hb _ => by rcases hb with hb | hb; exact hb; exact .inr (by omega)⟩
            rw [HT.out, List.map_append, ← List.append_assoc, HQ.out, List.map_append]
            rfl
          have hK5 := hK.trans hK4 fun b hb => hb
          clear hr4 hg4 hv4 hlit hM3 hw3 hB4 hfin hK4
          go_wp2
          go_roundw
          case rel => exact ⟨i + 1, by go_num, by omega, hfin2, hK5⟩
          case measure => simp [intOf]; omega
        · have e : i = n := by omega
          subst e
          have HM1 : Hid (xs.take i = xs) := Lib.hid (List.take_of_length_le (by rw [HN.out]; exact Nat.le_refl _))
          go_wp2
          go_ret
          rw [HE.out, HU.out]
          rw [HM1.out] at hM1
          exact ⟨rfl, hM1, hK⟩
set_option maxRecDepth 100000 in
set_option maxHeartbeats 4000000 in
theorem rswap_any {w : World} {fp : Nat → Prop} {g : Nat} {Z : Int} {L : List Int} {us : List Dk.U} (hM : MD w fp g Z L us) (hl : us.length ≤ 900000000)
    (S : Nat → Prop) (A : Option Addr) (n c : Nat) (xs : List Int) (hn : xs.length = n) (hr : Rds w S A (u8s xs)) (hn47 : n ≤ 140737488355328) :
    Calls Try.prog 22 #[.pointer (some ⟨g, 0, none⟩), .slice A n c] w (DskPost (.int .i64 (Dk.swE Z xs)) Z L (Dk.swU Z us xs) fp g w) := by
  have HN := Lib.hid hn
  by_cases hz : Z < (n : Int)
  · have HE : Hid (Dk.swE Z xs = 7 ∧ Dk.swU Z us xs = us) := Lib.hid (by unfold Dk.swE Dk.swU; rw [hn]; simp [hz])
    obtain ⟨lv, Aw, cw, l, hus, hln, hcw, hMk, hrw⟩ := hM.cells
    obtain ⟨k0, k1, k2, f0, f1, f2⟩ := mdk_cells hMk.blo
    clear hus hn
    go_enter Try.func22, Try.ntmps22
    go_wp2
    go_ret
    rw [HE.out.1, HE.out.2]
    exact ⟨rfl, hM.mono fun b hb _ => .inl hb, Kp.refl _ _⟩
  · have HE : Hid (Dk.swE Z xs = 0 ∧ Dk.swU Z us xs = us ++ [.s xs]) := Lib.hid (by unfold Dk.swE Dk.swU; rw [hn]; simp [hz])
    obtain ⟨lv, Aw, cw, l, hus, hln, hcw, hMk, hrw⟩ := hM.cells
    obtain ⟨k0, k1, k2, f0, f1, f2⟩ := mdk_cells hMk.blo
    have HC : Hid (∀ V, Grows w V → _) := Lib.hid (fun V hV => mdk_cells (hMk.keep (w' := V) fun b _ hl => Below.block hV b hl).blo)
    have HX : Hid (∀ V, Grows w V → Rds V S A (u8s xs)) := Lib.hid (fun V hV => hr.new hV)
    have HQ := Lib.hid hus
    clear hus hn
    go_enter Try.func22, Try.ntmps22
    go_wp2_with fail
    refine wp_famF (n := 10) (size := 25) (D := [12, 13, 14, 15, 16, 17, 18, 19, 20, 21]) [0] [(12, isV (.pointer (some ⟨g, 0, none⟩))), (13, isV (.pointer (some ⟨g, 0, none⟩))), (14, isV (.pointer (some ⟨g, 0, none⟩))), (15, isV (.pointer (some ⟨g, 2, none⟩))), (16, isV (.slice Aw us.length cw)), (17, emptyV w.heap.size), (18, isV (.slice A n c)), (19, byV w.heap.size xs), (20, unV w.heap.size xs), (21, rowV w.heap.size xs)] (by kernel_rfl) (by rfl) (by kernel_rfl) (fun _ _ d _ _ h => by cases d <;> exact h) ?_ ?_
    · simp only [List.take_succ_cons, List.take_zero, famAllF]
      repeat' apply And.intro
      · rw [if_pos (by decide)]
        intro f V hg hl
        simp [Oper.looksAt, Op.operands, Call.operands, famAt, famOf, isV] at hl
        refine ⟨by simp [famWants], .pointer (some ⟨g, 0, none⟩), fun w' => by simp [execOp, rho, go_sem, hl], fun d hd => by cases hd; rfl⟩
      · rw [if_neg (by decide)]
        intro f V hg hl
        simp [Oper.looksAt, Op.operands, Call.operands, famAt, famOf, isV] at hl
        simp [famWants, boolIs_bool, boolIs_undef, execOp, rho, go_sem, hl, famUpon, famOf, isV, isAlloc, Grows.refl]
      · rw [if_neg (by decide)]
        intro f V hg hl
        simp [Oper.looksAt, Op.operands, Call.operands, famAt, famOf, isV] at hl
        simp [famWants, boolIs_bool, boolIs_undef, execOp, rho, go_sem, hl, famUpon, famOf, isV, isAlloc, Grows.refl]
      · rw [if_neg (by decide)]
        intro f V hg hl
        simp [Oper.looksAt, Op.operands, Call.operands, famAt, famOf, isV] at hl
        simp [famWants, boolIs_bool, boolIs_undef, execOp, rho, go_sem, hl, famUpon, famOf, isV, isAlloc, Grows.refl]
      · rw [if_neg (by decide)]
        intro f V hg hl
        obtain ⟨k0, k1, k2, _⟩ := HC.out V hg
        simp [Oper.looksAt, Op.operands, Call.operands, famAt, famOf, isV] at hl
        simp [famWants, boolIs_bool, boolIs_undef, execOp, rho, go_sem, hl, k2, famUpon, famOf, isV, isAlloc, Grows.refl]
      · rw [if_neg (by decide)]
        intro f V hg hl
        simp [Oper.looksAt, Op.operands, Call.operands, famAt, famOf, isV] at hl
        simp [famWants, boolIs_bool, boolIs_undef, execOp, rho, go_sem, hl, Grows.alloc, famUpon, famOf, isV, isAlloc, Grows.refl]
        exact ⟨_, rfl, ByR.lit V (Below.size hg)⟩
      · rw [if_neg (by decide)]
        intro f V hg hl
        simp [Oper.looksAt, Op.operands, Call.operands, famAt, famOf, isV] at hl
        simp [famWants, boolIs_bool, boolIs_undef, execOp, rho, go_sem, hl, famUpon, famOf, isV, isAlloc, Grows.refl]
      · rw [if_neg (by decide)]
        intro f V hg hl
        simp [Oper.looksAt, Op.operands, Call.operands, famAt, famOf, isV] at hl
        obtain ⟨⟨p, e17, hB⟩, e18⟩ := hl
        obtain ⟨A', c', W', hrun, hcp, hb⟩ := run_cpb hB (Below.size hg) 32 S A n c xs HN.out (HX.out V hg) hn47
        refine ⟨fun _ => ?_, fun h => by cases h⟩
        simp only [execOp, resolve, invoke, builtin, Sem.run_bind, Sem.run_pure, Result.andThen_ok, List.map_toArray, List.map_cons, List.map_nil, rho, e17, e18, hrun, famUpon]
        refine ⟨hb, fun d hd => ?_, fun h => by cases h⟩
        cases hd
        exact ⟨A', c', rfl, hcp⟩
      · rw [if_neg (by decide)]
        intro f V hg hl
        simp [Oper.looksAt, Op.operands, Call.operands, famAt, famOf, isV] at hl
        obtain ⟨A', c', e19, hcp⟩ := hl
        simp [famWants, execOp, rho, go_sem, e19, famUpon, famOf, isV, isAlloc, Grows.refl]
        exact ⟨A', c', rfl, hcp⟩
      · rw [if_neg (by decide)]
        intro f V hg hl
        simp [Oper.looksAt, Op.operands, Call.operands, famAt, famOf, isV] at hl
        obtain ⟨A', c', e20, hcp⟩ := hl
        simp [famWants, execOp, rho, go_sem, e20, famUpon, famOf, isV, isAlloc, Grows.alloc]
        exact ⟨_, A', c', rfl, hcp.new (b_alloc _ _), (wlit_rds V 0 true (.slice A' xs.length c') xs _).mono fun _ _ => trivial⟩
      · trivial
    · intro u V hg hu _
      obtain ⟨p, A5, c5, e21, hB5, hR5⟩ : (rowV w.heap.size xs).1 (u 21) V := hu 21 (by decide)
      have e12 : u 12 = .pointer (some ⟨g, 0, none⟩) := hu 12 (by decide)
      have e16 : u 16 = .slice Aw us.length cw := hu 16 (by decide)
      simp only [List.drop_succ_cons, List.drop_zero, fill, Act.put, List.setIfInBounds_toArray, List.set_cons_zero, List.set_cons_succ, e12, e16, e21]
      have hMV := hMk.keep (w' := V) fun b _ hl => Below.block hg b hl
      have hbV : Below w.heap.size w V := hg
      have hln' : l.length + 1 ≤ 1000000000 := by omega
      have hslc : ∀ y ∈ [(⟨0, true, .slice A5 xs.length c5, xs⟩ : Dk.W)], Dk.Slc y.v := fun y hy => by rw [List.mem_singleton.1 hy]; exact ⟨_, _, _, rfl⟩
      clear hu e12 e16 e21 k0 k1 k2 f0 f1 f2
      refine wpList_wapp _ rfl _ _ rfl 0 _ l rfl hMV.row (fun _ => True) p 1 1 [⟨0, true, .slice A5 xs.length c5, xs⟩] rfl rfl hR5 hslc hln' (Nat.zero_le _) ?_
      intro v4 w4 hr4 hg4 hv4
      obtain ⟨A4, c4, ev4, _, _⟩ := hr4.form
      obtain ⟨K, hKK⟩ : ∃ K, K = (l ++ [(⟨0, true, .slice A5 xs.length c5, xs⟩ : Dk.W)]).length := ⟨_, rfl⟩
      rw [← hKK] at ev4
      subst ev4
      clear hKK
      obtain ⟨hB4, hfin, hK4⟩ := mdk_push hMk hbV ⟨0, true, .slice A5 xs.length c5, xs⟩ (hB5.mono fun b hb _ => .inr hb) hr4 hg4 hv4
      obtain ⟨m0, m1, m2, n0, n1, n2⟩ := mdk_cells hB4
      have hfin2 : MD (w4.setCell ⟨g, 2, none⟩ (.slice A4 K c4)) (fun b => fp b ∨ w.heap.size ≤ b) g Z L (us ++ [.s xs]) := by
        refine ⟨lv, _, _, ?_, hfin⟩
        rw [HQ.out, List.map_append]
        rfl
      clear hr4 hg4 hv4 hR5 hB5 hMV hB4 hfin
      go_wp2
      go_ret
      rw [HE.out.1, HE.out.2]
      exact ⟨rfl, hfin2, hK4⟩
end Go.Proofs.Ytfllebfegngdhaa
