/- Layer 8, the document's own: Newer. -/
import Derived.Test.YtedcgfcmhaeldaaQSt
import Derived.Test.YtedcgfcmhaeldaaQDot
namespace Go.Proofs.Ytedcgfcmhaeldaa
set_option linter.unusedVariables false
set_option linter.unusedSimpArgs false
open Go.ChangeShapes Go.WideShapes Go.ChangeAt Go.RowKit

/-- The first nodes' dots up to their numbers, and of one node those before s. -/
def hasUp (U : Nat → Int) (k s : Nat) : D.Dot → Bool := fun d => decide (0 ≤ d.1 ∧ d.1 < k ∧ 1 ≤ d.2 ∧ d.2 ≤ U d.1.toNat) || decide (d.1 = k ∧ 1 ≤ d.2 ∧ d.2 < s)
theorem hasUp_zero (U : Nat → Int) (m t : Nat) (hm : m < 8) : hasUp U 0 1 ((m : Int), (t : Int)) = false := by
  unfold hasUp
  simp
  omega
theorem hasUp_more (U : Nat → Int) (k s : Nat) (hs : 1 ≤ s) : ∀ m t : Nat, m < 8 → t < 98 → hasUp U k (s + 1) ((m : Int), (t : Int)) = if m = k ∧ t = s then true else hasUp U k s ((m : Int), (t : Int)) := by
  intro m t hm ht
  unfold hasUp
  by_cases e : m = k ∧ t = s
  · obtain ⟨rfl, rfl⟩ := e
    rw [if_pos ⟨rfl, rfl⟩]
    simp
    omega
  · rw [if_neg e, Bool.eq_iff_iff]
    simp only [Bool.or_eq_true, decide_eq_true_eq, Int.toNat_natCast]
    constructor
    · rintro (h | h)
      · exact .inl h
      · exact .inr ⟨h.1, h.2.1, by omega⟩
    · rintro (h | h)
      · exact .inl h
      · exact .inr ⟨h.1, h.2.1, by omega⟩
theorem hasUp_next {U : Nat → Int} {k s : Nat} (h : ¬ (s : Int) ≤ U k) (h' : (s : Int) ≤ U k + 1 ∨ s = 1) (hU : 0 ≤ U k) : ∀ d : D.Dot, hasUp U (k + 1) 1 d = hasUp U k s d := by
  intro d
  unfold hasUp
  rw [Bool.eq_iff_iff]
  simp only [Bool.or_eq_true, decide_eq_true_eq]
  have hs : (s : Int) = U k + 1 := by omega
  constructor
  · rintro (h1 | h1)
    · by_cases e : d.1 = k
      · refine .inr ⟨e, h1.2.2.1, ?_⟩
        have : d.1.toNat = k := by omega
        rw [this] at h1
        omega
      · exact .inl ⟨h1.1, by omega, h1.2.2⟩
    · exfalso; omega
  · rintro (h1 | h1)
    · exact .inl ⟨h1.1, by omega, h1.2.2⟩
    · refine .inl ⟨by omega, by omega, h1.2.1, ?_⟩
      have : d.1.toNat = k := by omega
      rw [this]
      omega
/-- These, and the first so many more. -/
def hasM (U : Nat → Int) (M : List D.Dot) (i : Nat) : D.Dot → Bool := fun d => hasUp U 8 1 d || (M.take i).contains d
theorem hasM_zero (U : Nat → Int) (M : List D.Dot) : hasM U M 0 = hasUp U 8 1 := by funext d; simp [hasM]
theorem hasM_more {U : Nat → Int} {M : List D.Dot} {i n s : Nat} (hi : i < M.length) (he : M[i] = ((n : Int), (s : Int))) : ∀ m t : Nat, m < 8 → t < 98 → hasM U M (i + 1) ((m : Int), (t : Int)) = if m = n ∧ t = s then true else hasM U M i ((m : Int), (t : Int)) := by
  intro m t _ _
  unfold hasM
  rw [List.take_succ_eq_append_getElem hi]
  by_cases e : m = n ∧ t = s
  · obtain ⟨rfl, rfl⟩ := e
    rw [if_pos ⟨rfl, rfl⟩, he]
    simp
  · rw [if_neg e, he, Bool.eq_iff_iff]
    simp only [Bool.or_eq_true, List.contains_iff_mem, List.mem_append, List.mem_singleton, or_assoc]
    constructor
    · rintro (h | h | h)
      · exact .inl h
      · exact .inr h
      · simp at h; exact absurd h (by omega)
    · rintro (h | h)
      · exact .inl h
      · exact .inr (.inl h)
theorem hasM_all {U : Nat → Int} {M : List D.Dot} {i : Nat} (hrt : D.rt U M = true) (hi : M.length ≤ i) (hmay : ∀ d ∈ M, D.may d = true) (a b : Nat) (ha : a < 8) (hb : b < 98) : hasM U M i ((a : Int), (b : Int)) = D.has U M ((a : Int), (b : Int)) := by
  have hU := (D.rt_iff.1 hrt).1 a ha
  unfold hasM
  rw [List.take_of_length_le hi]
  cases hm : D.may ((a : Int), (b : Int)) with
  | true =>
    have h1 := D.may_iff.1 hm
    simp only at h1
    rw [D.has_yes hm hrt, Bool.eq_iff_iff]
    unfold hasUp
    simp only [Bool.or_eq_true, decide_eq_true_eq, Int.toNat_natCast]
    constructor
    · rintro ((h | h) | h)
      · exact .inl h.2.2.2
      · exfalso; omega
      · exact .inr h
    · rintro (h | h)
      · exact .inl (.inl ⟨by omega, by omega, by omega, h⟩)
      · exact .inr h
  | false =>
    rw [D.has_no (.inl hm)]
    rw [← Bool.not_eq_true]
    intro h
    unfold hasUp at h
    simp only [Bool.or_eq_true, decide_eq_true_eq, Int.toNat_natCast, List.contains_iff_mem] at h
    have hf : ¬ (1 ≤ b ∧ b ≤ 96) := fun h' => by
      have : D.may ((a : Int), (b : Int)) = true := D.may_iff.2 (by simp only; omega)
      rw [this] at hm; cases hm
    rcases h with (h | h) | h
    · omega
    · omega
    · rw [hmay _ h] at hm; cases hm
theorem rt_may {U : Nat → Int} {M : List D.Dot} (h : D.rt U M = true) : ∀ d ∈ M, D.may d = true := fun d hd => by
  obtain ⟨i, hi, rfl⟩ := List.mem_iff_getElem.1 hd
  have := (D.rt_iff.1 h).2 i hi
  exact (D.ok1_parts hi this).1
theorem Tab.row {w : World} {g B : Nat} {H : D.Dot → Bool} {v : Value} {l : List EvV} (h : Tab w g H) (k : ERow w B v l) : some g ≠ v.ownBlock := by
  obtain ⟨cs, h1, _⟩ := h
  exact fun e => k.blo h1 (by decide) e.symm
theorem copy_apart {w : World} {S : Nat → Prop} {B B2 : Nat} {v : Value} {l : List EvV} {A : Option Addr} {c : Nat} {M : List D.Dot} (h : EOwn w S B v l) (hD : Copy w B2 A c M) (hS : ∀ b, B2 ≤ b → S b) : Rds w (fun b => S b ∧ some b ≠ v.ownBlock) A (dvs M) := by
  rcases hD.2 with rfl | hD
  · exact Rds.nil
  · exact h.apart hD hS
/-- Those that aren't in it. -/
def nlist (has : D.Dot → Bool) (l : List E.Ev) : List E.Ev := l.filter fun e => !has (B.dotOf e)
theorem nlist_yes {has : D.Dot → Bool} {l : List EvV} {i : Nat} (h : i < l.length) (hh : has (l[i].F 0, l[i].F 1) = true) : nlist has (plain (l.take (i + 1))) = nlist has (plain (l.take i)) := by
  unfold nlist
  rw [plain_take h, List.filter_append]
  have : (!has (B.dotOf (l[i].F, l[i].M))) = false := by unfold B.dotOf; simp only [hh]; rfl
  simp [this]
theorem nlist_no {has : D.Dot → Bool} {l : List EvV} {i : Nat} (h : i < l.length) (hh : has (l[i].F 0, l[i].F 1) = false) : nlist has (plain (l.take (i + 1))) = nlist has (plain (l.take i)) ++ [(l[i].F, l[i].M)] := by
  unfold nlist
  rw [plain_take h, List.filter_append]
  have : (!has (B.dotOf (l[i].F, l[i].M))) = true := by unfold B.dotOf; simp only [hh]; rfl
  simp [this]
/-- How far it has come. -/
def NwSt (w0 : World) (has : D.Dot → Bool) (most : Int) (m : List EvV) (gt : Nat) (H : D.Dot → Bool) (i : Nat) (v : Value) (w : World) : Prop :=
  ∃ A N c l, v = .slice A N c ∧ Hid (N = l.length ∧ plain l = (nlist has (plain (m.take i))).take most.toNat) ∧ N ≤ i ∧ EOwn w (fun b => w0.heap.size ≤ b) w0.heap.size (.slice A N c) l ∧ Tab w gt H ∧ Below w0.heap.size w0 w

set_option maxRecDepth 100000 in
set_option maxHeartbeats 16000000 in
theorem rnewer_any {S : Nat → Prop} {g : Nat} {T : TypeId} {Z : Nat → Prop} {b : B.Bk} {m : List EvV} {w : World} (U : Nat → Int) (A : Option Addr) (n c : Nat) (Ms : List D.Dot) (most : Int) (hM : MB w g T Z b.saw m b.time) (hpl : plain m = b.hold) (hok : B.Ok b) (hn : Ms.length = n) (hr : Rds w S A (dvs Ms)) (hl : n ≤ 1000000) :
    Calls Try.prog 28 #[.pointer (some ⟨g, 0, none⟩), sv U A n c, .int .i64 most] w (NewP (B.newer b (D.has U Ms) most) w) := by
  obtain ⟨cs, Ah, Nh, ch, hK⟩ := hM
  have hNh : Nh ≤ 768 := by rw [hK.len, ← plain_len, hpl]; exact hold_len hok
  have hNhb : Nh ≤ 1000000 := by omega
  have HNh := Lib.hid hK.len
  have HN7 : Hid (Nh ≤ 768) := Lib.hid hNh
  have HSH : Hid (∀ e ∈ m, e.M.length ≤ 96 ∧ D.may (e.F 0, e.F 1) = true) := Lib.hid (fun e he => by
    have h1 : (e.F, e.M) ∈ b.hold := by rw [← hpl]; exact List.mem_map.2 ⟨e, he, rfl⟩
    exact ⟨(B.right_may (hok.rt _ h1)).2.2.2.2, (B.right_may (hok.rt _ h1)).1⟩)
  have HPL := Lib.hid hpl
  have hrm : ERds w (fun x => x < w.heap.size) Ah m := ⟨hK.own.erds.1.old.mono fun b hb => hb.2, fun e he => (hK.own.erds.2 e he).old.mono fun b hb => hb.2⟩
  have hgw := hK.blo.lt
  have X784 : Hid (∀ W, Below w.heap.size w W → W.cell? ⟨g, 784, none⟩ = some (.slice Ah Nh ch)) := Lib.hid (fun W hW => ((hK.blo.keep (hW.block g hgw)).cell _).trans hK.hold)
  have HN := Lib.hid hn
  obtain ⟨w2, hw2⟩ : ∃ W, (w.alloc (.cells (scs U A n c) 51)).alloc (.cells Try.zeroCells35 35) = W := ⟨_, rfl⟩
  obtain ⟨gb, hgb⟩ : ∃ q, q = w.heap.size := ⟨_, rfl⟩
  obtain ⟨gt, hgt⟩ : ∃ q, q = w.heap.size + 1 := ⟨_, rfl⟩
  have hb2 : Below w.heap.size w w2 := by rw [← hw2]; exact b_alloc2 _ _ _
  have hs2 : w2.heap.size = w.heap.size + 2 := by rw [← hw2]; simp
  have hX2 : Blo w2 gb 51 (scs U A n c) := by rw [← hw2, hgb]; exact (Blo.made _ _ _).alloc _
  have hT2 : ∀ H : D.Dot → Bool, (∀ m t : Nat, m < 8 → t < 98 → H ((m : Int), (t : Int)) = false) → Tab w2 gt H := fun H hH => by
    refine ⟨Try.zeroCells35, ?_, by rw [Try.zeroTab]; simp, fun m t hm ht => ?_⟩
    · rw [← hw2, hgt]
      have := Blo.made (w.alloc (.cells (scs U A n c) 51)) 35 Try.zeroCells35
      simpa using this
    · rw [Try.zeroTab, hH m t hm ht]
      have : m * 98 + t < 784 := by omega
      simp [this]
  have hr2 := hr.new hb2
  have HRO : Hid (Rds w (fun b => b < w.heap.size) A (dvs Ms)) := Lib.hid (hr.old.mono fun b hb => hb.2)
  have hrt := rright_any S U A n c Ms w2 hn hr2 hl
  have HT2 := Lib.hid hT2
  have HW := Lib.hid hw2
  have HGB := Lib.hid hgb
  have HGT := Lib.hid hgt
  obtain ⟨y0, y1, y2, y3, y4, y5, y6, y7, y8⟩ := set9 hX2
  rw [← hw2, hgb] at y0 y1 y2 y3 y4 y5 y6 y7 y8
  clear hNh hpl hK hn hw2 hgb hgt hT2 hr
  go_enter Try.func28, Try.ntmps28
  go_wp2_with fail
  rw [HW.out, ← HGT.out, ← HGB.out]
  refine hrt.mono ?_
  rintro e w3 ⟨rfl, hb3⟩
  have hX3 := hX2.new hb3
  have hb03 := below_new hb2 hb3
  have hs3 := hb3.size
  have hgb0 : w.heap.size ≤ gb := by have := HGB.out; omega
  have hgt0 : w.heap.size ≤ gt := by have := HGT.out; omega
  have HBT : Hid (gb ≠ gt) := Lib.hid (by have := HGT.out; have := HGB.out; omega)
  clear hrt y0 y1 y2 y3 y4 y5 y6 y7 y8 hX2
  cases hrr : D.rt U Ms with
  | false =>
    obtain ⟨H, hH⟩ : ∃ H : D.Dot → Bool, H = fun _ => false := ⟨_, rfl⟩
    have hTz : Tab w3 gt H := (HT2.out H (fun _ _ _ _ => by rw [hH])).new hb3
    have HH : Hid (∀ a b : Nat, a < 8 → b < 98 → H ((a : Int), (b : Int)) = D.has U Ms ((a : Int), (b : Int))) := Lib.hid (fun a b _ _ => by rw [hH, D.has_no (.inr hrr)])
    obtain ⟨wz, hwz⟩ : ∃ W, W = w3 := ⟨_, rfl⟩
    subst hwz
    have hbz := hb03
    clear hrr hH HT2 hX3 hr2 hb2 hb3 hs2 hs3 HBT HRO hb03
    have hrz : ERds wz (fun x => x < w.heap.size) Ah m := hrm.below hbz fun b hb _ => hb
    have y784 : wz.cell? ⟨g, 784, none⟩ = some (.slice Ah Nh ch) := X784.out wz hbz
    have h0 : NwSt w (D.has U Ms) most m gt H 0 (.slice none 0 0) wz := ⟨none, 0, 0, [], rfl, Lib.hid ⟨rfl, by simp [plain, nlist]⟩, by omega, EOwn.nil _ _ _, hTz, hbz⟩
    clear hrz hTz
    go_wp2_with fail
    clear y784
    go_loopw [13, 53] (fun lv iv wr => ∃ i : Nat, iv = .int .i64 i ∧ i ≤ Nh ∧ NwSt w (D.has U Ms) most m gt H i lv wr) (fun _ iv _ => Nh - (intOf iv).toNat)
    case atStart => exact ⟨0, rfl, by omega, h0⟩
    case round =>
      obtain ⟨i, rfl, hi, A6, N6, cc, ll, rfl, HL, hNb, hO, hTr, hbr⟩ := hrel
      clear h0
      by_cases hltz : i < Nh
      · have hlt' : i < m.length := by rw [← HNh.out]; exact hltz
        have hlong := HSH.out m[i] (List.getElem_mem hlt')
        have HYES := Lib.hid (fun h => nlist_yes (has := D.has U Ms) hlt' h)
        have HNO := Lib.hid (fun h => nlist_no (has := D.has U Ms) hlt' h)
        obtain ⟨ad, rfl, _, hrx, c0, c1, c2, c3, c4, c5, c6, c7, c8, c9, c10, c11, c12, c13⟩ := (hrm.below hbr fun b hb _ => hb).cells hlt'
        obtain ⟨x, hx⟩ : ∃ x, x = m[i] := ⟨_, rfl⟩
        rw [← hx] at hrx c0 c1 c2 c3 c4 c5 c6 c7 c8 c9 c10 c11 c12 c13 hlong HYES HNO
        obtain ⟨F, M, Ax, cx⟩ := x
        simp only at hrx c0 c1 c2 c3 c4 c5 c6 c7 c8 c9 c10 c11 c12 c13 hlong HYES HNO
        obtain ⟨q, hq⟩ : ∃ q, M.length = q := ⟨_, rfl⟩
        rw [hq] at c13 hlong
        have hqb : q ≤ 1000000 := by have := hlong.1; omega
        have HQ := Lib.hid hq
        have hm' := D.may_iff.1 hlong.2
        simp only at hm'
        obtain ⟨a9, ha9⟩ := Int.eq_ofNat_of_zero_le hm'.1
        obtain ⟨b9, hb9⟩ := Int.eq_ofNat_of_zero_le (show 0 ≤ F 1 by omega)
        have ha8 : a9 < 8 := by omega
        have hb98 : b9 < 98 := by omega
        have aI : (a9 : Int) < 8 := by omega
        have bI : (b9 : Int) < 98 := by omega
        have HA := Lib.hid ha9
        have HB := Lib.hid hb9
        obtain ⟨w5, hw5⟩ : ∃ W, wr.alloc (.cells (ecs F Ax q cx) 43) = W := ⟨_, rfl⟩
        obtain ⟨gx, hgx⟩ : ∃ q, q = wr.heap.size := ⟨_, rfl⟩
        have hb5 : Below wr.heap.size wr w5 := by rw [← hw5]; exact b_alloc _ _
        have hX5 : Blo w5 gx 43 (ecs F Ax q cx) := by rw [← hw5, hgx]; exact Blo.made _ _ _
        have hO5 := hO.new hb5
        have hT5 := hTr.new hb5
        have hbr5 := below_new hbr hb5
        have hrx5 := hrx.new hb5
        have hB5 : w.heap.size ≤ w5.heap.size := hbr5.size
        have HW5 := Lib.hid hw5
        have HGX := Lib.hid hgx
        have HXO : Hid ((Value.slice A6 N6 cc).ownBlock ≠ some gx) := Lib.hid (fun e => by have := (hO.row.lt gx e).2; omega)
        have HE0 : Hid (∀ V, Grows w5 V → V.cell? ⟨gx, 0, none⟩ = some (.int .i64 (a9 : Int))) := Lib.hid (fun V hV => by rw [← HA.out]; simpa using (hX5.new hV).cell 0)
        have HE1 : Hid (∀ V, Grows w5 V → V.cell? ⟨gx, 1, none⟩ = some (.int .i64 (b9 : Int))) := Lib.hid (fun V hV => by rw [← HB.out]; simpa using (hX5.new hV).cell 1)
        have HTC : Hid (∀ V, Grows w5 V → V.cell? ⟨gt, a9 * 98 + b9, none⟩ = some (.bool (H ((a9 : Int), (b9 : Int))))) := Lib.hid (fun V hV => ((hT5.new hV).cell ha8 hb98).1)
        obtain ⟨hv, hhv⟩ : ∃ z, z = H ((a9 : Int), (b9 : Int)) := ⟨_, rfl⟩
        have HHV : Hid (D.has U Ms (F 0, F 1) = hv) := Lib.hid (by rw [HA.out, HB.out, hhv, HH.out a9 b9 ha8 hb98])
        rw [← hhv] at HTC
        clear hx hq hw5 hgx hlong hO hTr hbr hrx hb5 hm' ha9 hb9 hhv
        by_cases hmo : (N6 : Int) < most
        · have qmo : decide ((N6 : Int) < most) = true := by simpa using hmo
          have HLT : Hid ((ll.length : Int) < most) := Lib.hid (by rw [← HL.out.1]; exact hmo)
          clear hmo
          go_wp2_with fail
          rw [HW5.out, ← HGX.out]
          refine wp_fam (n := 16) (size := 80) (D := [57, 58, 59, 60, 61, 62, 63, 64, 65, 66, 67, 68, 69, 70, 71, 72]) [(57, isV (.slice A6 N6 cc)), (58, isV (.int .i64 (N6 : Int))), (59, isV (.int .i64 most)), (60, isV (.bool true)), (61, isV (.bool true)), (62, isV (.pointer (some ⟨gx, 0, none⟩))), (63, isV (.pointer (some ⟨gx, 0, none⟩))), (64, isV (.int .i64 (a9 : Int))), (65, isV (.pointer (some ⟨gx, 0, none⟩))), (66, isV (.pointer (some ⟨gx, 1, none⟩))), (67, isV (.int .i64 (b9 : Int))), (68, isV (.pointer (some ⟨gt, a9 * 98, none⟩))), (69, isV (.pointer (some ⟨gt, a9 * 98 + b9, none⟩))), (70, isV (.bool hv)), (71, isV (.bool (!hv))), (72, isV (.bool (!hv)))] (by kernel_rfl) (by rfl) (by kernel_rfl) ?_ ?_
          · simp only [List.take_succ_cons, List.take_zero, famAll]
            repeat' apply And.intro
            · intro f V hg hl
              simp [Oper.looksAt, Op.operands, Call.operands, famAt, famOf, isV] at hl
              simp [famWants, boolIs_bool, boolIs_undef, execOp, rho, go_sem, hl, famUpon, famOf, isV, Grows.refl]
            · intro f V hg hl
              simp [Oper.looksAt, Op.operands, Call.operands, famAt, famOf, isV] at hl
              simp [famWants, boolIs_bool, boolIs_undef, execOp, rho, go_sem, hl, famUpon, famOf, isV, Grows.refl]
            · intro f V hg hl
              simp [Oper.looksAt, Op.operands, Call.operands, famAt, famOf, isV] at hl
              simp [famWants, boolIs_bool, boolIs_undef, execOp, rho, go_sem, hl, famUpon, famOf, isV, Grows.refl]
            · intro f V hg hl
              simp [Oper.looksAt, Op.operands, Call.operands, famAt, famOf, isV] at hl
              simp [famWants, boolIs_bool, boolIs_undef, execOp, rho, go_sem, hl, qmo, famUpon, famOf, isV, Grows.refl]
            · intro f V hg hl
              simp [Oper.looksAt, Op.operands, Call.operands, famAt, famOf, isV] at hl
              simp [famWants, boolIs_bool, boolIs_undef, execOp, rho, go_sem, hl, famUpon, famOf, isV, Grows.refl]
            · intro f V hg hl
              simp [Oper.looksAt, Op.operands, Call.operands, famAt, famOf, isV] at hl
              simp [famWants, boolIs_bool, boolIs_undef, execOp, rho, go_sem, hl, famUpon, famOf, isV, Grows.refl]
            · intro f V hg hl
              simp [Oper.looksAt, Op.operands, Call.operands, famAt, famOf, isV] at hl
              simp [famWants, boolIs_bool, boolIs_undef, execOp, rho, go_sem, hl, famUpon, famOf, isV, Grows.refl]
            · intro f V hg hl
              have k := HE0.out V hg
              simp [Oper.looksAt, Op.operands, Call.operands, famAt, famOf, isV] at hl
              simp [famWants, boolIs_bool, boolIs_undef, execOp, rho, go_sem, hl, k, famUpon, famOf, isV, Grows.refl]
            · intro f V hg hl
              simp [Oper.looksAt, Op.operands, Call.operands, famAt, famOf, isV] at hl
              simp [famWants, boolIs_bool, boolIs_undef, execOp, rho, go_sem, hl, famUpon, famOf, isV, Grows.refl]
            · intro f V hg hl
              simp [Oper.looksAt, Op.operands, Call.operands, famAt, famOf, isV] at hl
              simp [famWants, boolIs_bool, boolIs_undef, execOp, rho, go_sem, hl, famUpon, famOf, isV, Grows.refl]
            · intro f V hg hl
              have k := HE1.out V hg
              simp [Oper.looksAt, Op.operands, Call.operands, famAt, famOf, isV] at hl
              simp [famWants, boolIs_bool, boolIs_undef, execOp, rho, go_sem, hl, k, famUpon, famOf, isV, Grows.refl]
            · intro f V hg hl
              simp [Oper.looksAt, Op.operands, Call.operands, famAt, famOf, isV] at hl
              simp [famWants, boolIs_bool, boolIs_undef, execOp, rho, go_sem, hl, aI, ha8, famUpon, famOf, isV, Grows.refl]
            · intro f V hg hl
              simp [Oper.looksAt, Op.operands, Call.operands, famAt, famOf, isV] at hl
              simp [famWants, boolIs_bool, boolIs_undef, execOp, rho, go_sem, hl, bI, hb98, famUpon, famOf, isV, Grows.refl]
            · intro f V hg hl
              have k := HTC.out V hg
              simp [Oper.looksAt, Op.operands, Call.operands, famAt, famOf, isV] at hl
              simp [famWants, boolIs_bool, boolIs_undef, execOp, rho, go_sem, hl, k, famUpon, famOf, isV, Grows.refl]
            · intro f V hg hl
              simp [Oper.looksAt, Op.operands, Call.operands, famAt, famOf, isV] at hl
              simp [famWants, boolIs_bool, boolIs_undef, execOp, rho, go_sem, hl, famUpon, famOf, isV, Grows.refl]
            · intro f V hg hl
              simp [Oper.looksAt, Op.operands, Call.operands, famAt, famOf, isV] at hl
              simp [famWants, boolIs_bool, boolIs_undef, execOp, rho, go_sem, hl, famUpon, famOf, isV, Grows.refl]
            · trivial
          · intro u V hg hu
            have e72 : u 72 = .bool (!hv) := hu 72 (by decide)
            simp only [List.drop_succ_cons, List.drop_zero, fill, Act.put, List.setIfInBounds_toArray, List.set_cons_zero, List.set_cons_succ, e72]
            refine wpList_nil ?_
            have hXV := hX5.new hg
            have hOV := hO5.new hg
            have hTV := hT5.new hg
            have hbV := below_new hbr5 hg
            have hrV := hrx5.new hg
            have hgx5 := hX5.lt
            have hsV : w5.heap.size ≤ V.heap.size := Below.size hg
            clear hu e72 HE0 HE1 HTC hX5 hO5 hT5 hrx5
            cases hv with
            | true =>
              have HL' : Hid (N6 = ll.length ∧ plain ll = (nlist (D.has U Ms) (plain (m.take (i + 1)))).take most.toNat) := Lib.hid ⟨HL.out.1, by rw [HYES.out HHV.out]; exact HL.out.2⟩
              clear HYES HNO
              go_wp2
              go_roundw
              case rel => exact ⟨i + 1, by go_num, by omega, A6, N6, cc, ll, rfl, HL', by omega, hOV, hTV, hbV⟩
              case measure => simp [intOf]; omega
            | false =>
              obtain ⟨z0, z1, z2, z3, z4, z5, z6, z7, z8, z9, z10, z11, z12, z13⟩ := set14 hXV
              have hcp := ecopy_any _ F Ax q cx M V HQ.out hrV hqb
              go_wp2_with fail
              refine hcp.mono ?_
              rintro e w6 ⟨Ac, c6', rfl, hC6, hb6⟩
              rw [HQ.out]
              have hO6 := hOV.new hb6
              have hT6 := hTV.new hb6
              have hb06 := below_new hbV hb6
              have hs6 := hb6.size
              obtain ⟨w7, hw7⟩ : ∃ W, w6.alloc (.cells (ecs F Ac q c6') 43) = W := ⟨_, rfl⟩
              have hb7 : Below w6.heap.size w6 w7 := by rw [← hw7]; exact b_alloc _ _
              have hs7 : w7.heap.size = w6.heap.size + 1 := by rw [← hw7]; simp
              have hO7 := hO6.new hb7
              have hT7 := hT6.new hb7
              have hC7 := hC6.new hb7
              have hb07 := below_new hb06 hb7
              have hRd7 : Rds w7 (fun _ => True) (some ⟨w6.heap.size, 0, none⟩) (evs [(⟨F, M, Ac, c6'⟩ : EvV)]) := by
                refine blo_ers (t := 43) _ ?_
                unfold EvV.cells
                simp only
                rw [HQ.out, ← hw7]
                exact Blo.made _ _ _
              have hlen7 : ll.length + 1 ≤ 1000000 := by rw [← HL.out.1]; have := HN7.out; omega
              have hsz7 : w.heap.size ≤ w7.heap.size := hb07.size
              have hR7 := hO7.row
              have HW7 := Lib.hid hw7
              have HS7 := Lib.hid hs7
              have HL' : Hid (N6 + 1 = (ll ++ [(⟨F, M, Ac, c6'⟩ : EvV)]).length ∧ plain (ll ++ [(⟨F, M, Ac, c6'⟩ : EvV)]) = (nlist (D.has U Ms) (plain (m.take (i + 1)))).take most.toNat) := Lib.hid ⟨by rw [List.length_append, ← HL.out.1]; rfl, by
                rw [HNO.out HHV.out, ← take_len HL.out.2, if_pos HLT.out, plain_app]; rfl⟩
              rw [← hw7] at hRd7 hsz7 hR7
              clear hcp z0 z1 z2 z3 z4 z5 z6 z7 z8 z9 z10 z11 z12 z13 hw7 hs7 hb7 HYES HNO hOV hTV hO6 hT6 hC6
              go_wp2_with (at_builtin; refine wpList_eapp' _ rfl _ _ rfl w.heap.size (.slice A6 N6 cc) ll rfl hR7 _ (some ⟨w6.heap.size, 0, none⟩) 1 1 [⟨F, M, Ac, c6'⟩] rfl rfl hRd7 hlen7 hsz7 ?_)
              intro v9 w9 hr9 hg9 hv9
              rw [HW7.out] at hg9
              rw [← HS7.out] at hv9
              have hO9 := hO7.snoc hr9 hg9 hv9 (copy_apart hO7 hC7 (fun b hb => Nat.le_trans (Nat.le_trans hB5 hsV) hb))
              have hT9 := hT7.keep (hg9.block gt hT7.lt (hT7.row hO7.row))
              have hb9 : Below w.heap.size w w9 := hb07.grown hg9 hb07.size (fun k hk => (hO7.row.lt k hk).1)
              obtain ⟨A9, c9, rfl, _⟩ := hr9.form
              rw [← HL'.out.1] at hO9 ⊢
              clear hR7 hRd7 hr9 hg9 hv9 hO7 hT7 hC7
              go_wp2
              go_roundw
              case rel => exact ⟨i + 1, by go_num, by omega, A9, N6 + 1, c9, _, rfl, HL', by omega, hO9, hT9, hb9⟩
              case measure => simp [intOf]; omega
        · have qmo : decide ((N6 : Int) < most) = false := by simpa using hmo
          have HL' : Hid (N6 = ll.length ∧ plain ll = (nlist (D.has U Ms) (plain (m.take (i + 1)))).take most.toNat) := Lib.hid ⟨HL.out.1, by
            cases hv with
            | true => rw [HYES.out HHV.out]; exact HL.out.2
            | false => rw [HNO.out HHV.out, ← take_len HL.out.2, if_neg (by rw [← HL.out.1]; exact hmo)]⟩
          clear hmo HYES HNO
          go_wp2_with fail
          rw [HW5.out, ← HGX.out]
          refine wp_fam (n := 16) (size := 80) (D := [57, 58, 59, 60, 61, 62, 63, 64, 65, 66, 67, 68, 69, 70, 71, 72]) [(57, isV (.slice A6 N6 cc)), (58, isV (.int .i64 (N6 : Int))), (59, isV (.int .i64 most)), (60, isV (.bool false)), (61, isV (.bool false)), (62, isV undef), (63, isV undef), (64, isV undef), (65, isV undef), (66, isV undef), (67, isV undef), (68, isV undef), (69, isV undef), (70, isV undef), (71, isV undef), (72, isV (.bool false))] (by kernel_rfl) (by rfl) (by kernel_rfl) ?_ ?_
          · simp only [List.take_succ_cons, List.take_zero, famAll]
            repeat' apply And.intro
            · intro f V hg hl
              simp [Oper.looksAt, Op.operands, Call.operands, famAt, famOf, isV] at hl
              simp [famWants, boolIs_bool, boolIs_undef, execOp, rho, go_sem, hl, famUpon, famOf, isV, Grows.refl]
            · intro f V hg hl
              simp [Oper.looksAt, Op.operands, Call.operands, famAt, famOf, isV] at hl
              simp [famWants, boolIs_bool, boolIs_undef, execOp, rho, go_sem, hl, famUpon, famOf, isV, Grows.refl]
            · intro f V hg hl
              simp [Oper.looksAt, Op.operands, Call.operands, famAt, famOf, isV] at hl
              simp [famWants, boolIs_bool, boolIs_undef, execOp, rho, go_sem, hl, famUpon, famOf, isV, Grows.refl]
            · intro f V hg hl
              simp [Oper.looksAt, Op.operands, Call.operands, famAt, famOf, isV] at hl
              simp [famWants, boolIs_bool, boolIs_undef, execOp, rho, go_sem, hl, qmo, famUpon, famOf, isV, Grows.refl]
            · intro f V hg hl
              simp [Oper.looksAt, Op.operands, Call.operands, famAt, famOf, isV] at hl
              simp [famWants, boolIs_bool, boolIs_undef, execOp, rho, go_sem, hl, famUpon, famOf, isV, Grows.refl]
            · intro f V hg hl
              simp [Oper.looksAt, Op.operands, Call.operands, famAt, famOf, isV] at hl
              simp [famWants, boolIs_bool, boolIs_undef, execOp, rho, go_sem, hl, famUpon, famOf, isV, Grows.refl]
            · intro f V hg hl
              simp [Oper.looksAt, Op.operands, Call.operands, famAt, famOf, isV] at hl
              simp [famWants, boolIs_bool, boolIs_undef, execOp, rho, go_sem, hl, famUpon, famOf, isV, Grows.refl]
            · intro f V hg hl
              simp [Oper.looksAt, Op.operands, Call.operands, famAt, famOf, isV] at hl
              simp [famWants, boolIs_bool, boolIs_undef, execOp, rho, go_sem, hl, famUpon, famOf, isV, Grows.refl]
            · intro f V hg hl
              simp [Oper.looksAt, Op.operands, Call.operands, famAt, famOf, isV] at hl
              simp [famWants, boolIs_bool, boolIs_undef, execOp, rho, go_sem, hl, famUpon, famOf, isV, Grows.refl]
            · intro f V hg hl
              simp [Oper.looksAt, Op.operands, Call.operands, famAt, famOf, isV] at hl
              simp [famWants, boolIs_bool, boolIs_undef, execOp, rho, go_sem, hl, famUpon, famOf, isV, Grows.refl]
            · intro f V hg hl
              simp [Oper.looksAt, Op.operands, Call.operands, famAt, famOf, isV] at hl
              simp [famWants, boolIs_bool, boolIs_undef, execOp, rho, go_sem, hl, famUpon, famOf, isV, Grows.refl]
            · intro f V hg hl
              simp [Oper.looksAt, Op.operands, Call.operands, famAt, famOf, isV] at hl
              simp [famWants, boolIs_bool, boolIs_undef, execOp, rho, go_sem, hl, famUpon, famOf, isV, Grows.refl]
            · intro f V hg hl
              simp [Oper.looksAt, Op.operands, Call.operands, famAt, famOf, isV] at hl
              simp [famWants, boolIs_bool, boolIs_undef, execOp, rho, go_sem, hl, famUpon, famOf, isV, Grows.refl]
            · intro f V hg hl
              simp [Oper.looksAt, Op.operands, Call.operands, famAt, famOf, isV] at hl
              simp [famWants, boolIs_bool, boolIs_undef, execOp, rho, go_sem, hl, famUpon, famOf, isV, Grows.refl]
            · intro f V hg hl
              simp [Oper.looksAt, Op.operands, Call.operands, famAt, famOf, isV] at hl
              simp [famWants, boolIs_bool, boolIs_undef, execOp, rho, go_sem, hl, famUpon, famOf, isV, Grows.refl]
            · intro f V hg hl
              simp [Oper.looksAt, Op.operands, Call.operands, famAt, famOf, isV] at hl
              simp [famWants, boolIs_bool, boolIs_undef, execOp, rho, go_sem, hl, famUpon, famOf, isV, Grows.refl]
            · trivial
          · intro u V hg hu
            have e72 : u 72 = .bool false := hu 72 (by decide)
            simp only [List.drop_succ_cons, List.drop_zero, fill, Act.put, List.setIfInBounds_toArray, List.set_cons_zero, List.set_cons_succ, e72]
            refine wpList_nil ?_
            have hOV := hO5.new hg
            have hTV := hT5.new hg
            have hbV := below_new hbr5 hg
            clear hu e72 HE0 HE1 HTC hX5 hO5 hT5 hrx5
            go_wp2
            go_roundw
            case rel => exact ⟨i + 1, by go_num, by omega, A6, N6, cc, ll, rfl, HL', by omega, hOV, hTV, hbV⟩
            case measure => simp [intOf]; omega
      · have HEND : Hid (plain ll = B.newer b (D.has U Ms) most) := Lib.hid (by
          have e0 : m.take i = m := List.take_of_length_le (by rw [← HNh.out]; omega)
          rw [HL.out.2, e0, HPL.out]
          rfl)
        go_wp2
        go_ret
        exact ⟨A6, N6, cc, ll, rfl, Lib.hid HL.out.1, HEND.out, hO, hbr⟩
  | true =>
    have HRT := Lib.hid hrr
    have hTz : Tab w3 gt (hasUp U 0 1) := (HT2.out _ (fun m t hm _ => hasUp_zero U m t hm)).new hb3
    obtain ⟨k0, k1, k2, k3, k4, k5, k6, k7, k8⟩ := set9 hX3
    clear hrr HT2 hr2 hb2 hb3 hs2
    go_wp2_with fail
    clear k0 k1 k2 k3 k4 k5 k6 k7 k8
    go_loopw [20] (fun iv wr => ∃ k : Nat, iv = .int .i64 k ∧ k ≤ 8 ∧ Tab wr gt (hasUp U k 1) ∧ w3.grownBy wr (some gt)) (fun iv _ => 8 - (intOf iv).toNat)
    case atStart => exact ⟨0, rfl, by omega, hTz, World.grownBy.refl _ _⟩
    case round =>
      obtain ⟨k, rfl, hk, hTk, hgk⟩ := hrel
      clear hTz
      by_cases hlt : k < 8
      · have hav := fun W => av_at U hlt W
        have hUk := (D.rt_iff.1 HRT.out).1 k hlt
        have HUK := Lib.hid hUk
        obtain ⟨x, hx⟩ : ∃ x : Nat, U k = (x : Int) := ⟨(U k).toNat, by omega⟩
        have HX := Lib.hid hx
        have hx96 : x < 97 := by omega
        rw [hx] at hav
        clear hUk hx
        go_wp2_with fail
        clear hav
        go_loopw [10] (fun sv ws => ∃ s : Nat, sv = .int .i64 s ∧ 1 ≤ s ∧ s ≤ x + 1 ∧ Tab ws gt (hasUp U k s) ∧ w3.grownBy ws (some gt)) (fun sv _ => x + 1 - (intOf sv).toNat)
        case atStart => exact ⟨1, rfl, by omega, by omega, hTk, hgk⟩
        case round =>
          obtain ⟨s, rfl, hs1, hsx, hTs, hgs⟩ := hrel
          clear hTk hgk
          by_cases hle : s ≤ x
          · have hsI : (s : Int) ≤ (x : Int) := by omega
            have hkI : (k : Int) < 8 := by omega
            have hs98 : s < 98 := by omega
            have hsJ : (s : Int) < 98 := by omega
            obtain ⟨t1, t2⟩ := hTs.cell hlt hs98
            have hTp := hTs.put hlt hs98 (hasUp_more U k s hs1)
            clear hTs
            go_wp2
            go_roundw
            case rel => exact ⟨s + 1, by go_num, by omega, by omega, hTp, gb_set hgs (.inl rfl) _⟩
            case measure => simp [intOf]; omega
          · have hsI : ¬ (s : Int) ≤ (x : Int) := by omega
            have HEQ : Hid (hasUp U (k + 1) 1 = hasUp U k s) := Lib.hid (by funext d; exact hasUp_next (by rw [HX.out]; exact hsI) (.inl (by rw [HX.out]; omega)) HUK.out.1 d)
            go_wp2
            go_roundw
            case rel => exact ⟨k + 1, by go_num, by omega, by rw [HEQ.out]; exact hTs, hgs⟩
            case measure => simp [intOf]; omega
      · have hk8 : k = 8 := by omega
        rw [hk8, ← hasM_zero U Ms] at hTk
        have hXk := hX3.grown hgk (fun e => by injection e with e; exact HBT.out e)
        have k8 : wr.cell? ⟨gb, 8, none⟩ = some (.slice A n c) := by simpa using hXk.cell 8
        clear hk8
        go_wp2_with fail
        clear k8
        go_loopw [37] (fun iv ws => ∃ i : Nat, iv = .int .i64 i ∧ i ≤ n ∧ Tab ws gt (hasM U Ms i) ∧ Below w.heap.size w ws) (fun iv _ => n - (intOf iv).toNat)
        case atStart => exact ⟨0, rfl, by omega, hTk, hb03.grown hgk (by have := hb03.size; omega) (fun q hq => by injection hq with hq; omega)⟩
        case round =>
          obtain ⟨i, rfl, hi, hTi, hbi⟩ := hrel
          clear hTk hgk hXk
          by_cases hlti : i < n
          · have hlt' : i < Ms.length := by rw [HN.out]; exact hlti
            obtain ⟨ad, rfl, _, c1, c2⟩ := (HRO.out.below hbi fun b hb _ => hb).dot hlt'
            obtain ⟨x, hx⟩ : ∃ x, x = Ms[i] := ⟨_, rfl⟩
            rw [← hx] at c1 c2
            have hm' := D.may_iff.1 (rt_may HRT.out x (by rw [hx]; exact List.getElem_mem hlt'))
            obtain ⟨x1, x2⟩ := x
            simp only at c1 c2 hm'
            obtain ⟨nd, rfl⟩ := Int.eq_ofNat_of_zero_le hm'.1
            obtain ⟨sq, rfl⟩ := Int.eq_ofNat_of_zero_le (show 0 ≤ x2 by omega)
            have HS := Lib.hid (hasM_more (U := U) hlt' hx.symm)
            have hnd : nd < 8 := by omega
            have hsq : sq < 98 := by omega
            have nI : (nd : Int) < 8 := by omega
            have sI : (sq : Int) < 98 := by omega
            obtain ⟨w5, hw5⟩ : ∃ W, wr.alloc (.cells #[.int .i64 (nd : Int), .int .i64 (sq : Int)] 39) = W := ⟨_, rfl⟩
            obtain ⟨gd, hgd⟩ : ∃ q, q = wr.heap.size := ⟨_, rfl⟩
            have hb5 : Below wr.heap.size wr w5 := by rw [← hw5]; exact b_alloc _ _
            have hD5 : Blo w5 gd 39 #[.int .i64 (nd : Int), .int .i64 (sq : Int)] := by rw [← hw5, hgd]; exact Blo.made _ _ _
            have hT5 := hTi.new hb5
            have hb05 := below_new hbi hb5
            have HDD : Hid (∀ V, Grows w5 V → V.cell? ⟨gd, 0, none⟩ = some (.int .i64 (nd : Int)) ∧ V.cell? ⟨gd, 1, none⟩ = some (.int .i64 (sq : Int))) := Lib.hid (fun V hV => ⟨by simpa using (hD5.new hV).cell 0, by simpa using (hD5.new hV).cell 1⟩)
            have HW5 := Lib.hid hw5
            have HGD := Lib.hid hgd
            clear hw5 hgd hx hm' hTi hbi hb5 hD5
            go_wp2_with fail
            rw [HW5.out, ← HGD.out]
            refine wp_fam (n := 6) (size := 80) (D := [41, 42, 43, 44, 45, 46]) [(41, isV (.pointer (some ⟨gd, 0, none⟩))), (42, isV (.int .i64 (nd : Int))), (43, isV (.pointer (some ⟨gd, 1, none⟩))), (44, isV (.int .i64 (sq : Int))), (45, isV (.pointer (some ⟨gt, nd * 98, none⟩))), (46, isV (.pointer (some ⟨gt, nd * 98 + sq, none⟩)))] (by kernel_rfl) (by rfl) (by kernel_rfl) ?_ ?_
            · simp only [List.take_succ_cons, List.take_zero, famAll]
              repeat' apply And.intro
              · intro f V hg hl
                simp [Oper.looksAt, Op.operands, Call.operands, famAt, famOf, isV] at hl
                simp [famWants, boolIs_bool, boolIs_undef, execOp, rho, go_sem, hl, famUpon, famOf, isV, Grows.refl]
              · intro f V hg hl
                obtain ⟨q0, q1⟩ := HDD.out V hg
                simp [Oper.looksAt, Op.operands, Call.operands, famAt, famOf, isV] at hl
                simp [famWants, boolIs_bool, boolIs_undef, execOp, rho, go_sem, hl, q0, famUpon, famOf, isV, Grows.refl]
              · intro f V hg hl
                simp [Oper.looksAt, Op.operands, Call.operands, famAt, famOf, isV] at hl
                simp [famWants, boolIs_bool, boolIs_undef, execOp, rho, go_sem, hl, famUpon, famOf, isV, Grows.refl]
              · intro f V hg hl
                obtain ⟨q0, q1⟩ := HDD.out V hg
                simp [Oper.looksAt, Op.operands, Call.operands, famAt, famOf, isV] at hl
                simp [famWants, boolIs_bool, boolIs_undef, execOp, rho, go_sem, hl, q1, famUpon, famOf, isV, Grows.refl]
              · intro f V hg hl
                simp [Oper.looksAt, Op.operands, Call.operands, famAt, famOf, isV] at hl
                simp [famWants, boolIs_bool, boolIs_undef, execOp, rho, go_sem, hl, nI, hnd, famUpon, famOf, isV, Grows.refl]
              · intro f V hg hl
                simp [Oper.looksAt, Op.operands, Call.operands, famAt, famOf, isV] at hl
                simp [famWants, boolIs_bool, boolIs_undef, execOp, rho, go_sem, hl, sI, hsq, famUpon, famOf, isV, Grows.refl]
              · trivial
            · intro u V hg hu
              have h46 : u 46 = .pointer (some ⟨gt, nd * 98 + sq, none⟩) := hu 46 (by decide)
              simp only [List.drop_succ_cons, List.drop_zero, fill, Act.put, List.setIfInBounds_toArray, List.set_cons_zero, List.set_cons_succ, h46]
              have hTV := hT5.new hg
              obtain ⟨t1, t2⟩ := hTV.cell hnd hsq
              have hTp := hTV.put hnd hsq HS.out
              have hbV := below_new hb05 hg
              clear hu h46 HDD hT5 hTV
              go_wp2
              go_roundw
              case rel => exact ⟨i + 1, by go_num, by omega, hTp, hbV.setCell (by omega) _⟩
              case measure => simp [intOf]; omega
          · obtain ⟨H, hH⟩ : ∃ H : D.Dot → Bool, H = hasM U Ms i := ⟨_, rfl⟩
            have HH : Hid (∀ a b : Nat, a < 8 → b < 98 → H ((a : Int), (b : Int)) = D.has U Ms ((a : Int), (b : Int))) := Lib.hid (fun a b ha hb => by rw [hH]; exact hasM_all HRT.out (by rw [HN.out]; omega) (rt_may HRT.out) a b ha hb)
            rw [← hH] at hTi
            have hTz := hTi
            have hbz := hbi
            obtain ⟨wz, hwz⟩ : ∃ W, W = wr := ⟨_, rfl⟩
            subst hwz
            clear hH hTi hbi hX3 HRO HBT hb03 hs3
            have hrz : ERds wz (fun x => x < w.heap.size) Ah m := hrm.below hbz fun b hb _ => hb
            have y784 : wz.cell? ⟨g, 784, none⟩ = some (.slice Ah Nh ch) := X784.out wz hbz
            have h0 : NwSt w (D.has U Ms) most m gt H 0 (.slice none 0 0) wz := ⟨none, 0, 0, [], rfl, Lib.hid ⟨rfl, by simp [plain, nlist]⟩, by omega, EOwn.nil _ _ _, hTz, hbz⟩
            clear hrz hTz
            go_wp2_with fail
            clear y784
            go_loopw [13, 53] (fun lv iv wr => ∃ i : Nat, iv = .int .i64 i ∧ i ≤ Nh ∧ NwSt w (D.has U Ms) most m gt H i lv wr) (fun _ iv _ => Nh - (intOf iv).toNat)
            case atStart => exact ⟨0, rfl, by omega, h0⟩
            case round =>
              obtain ⟨i, rfl, hi, A6, N6, cc, ll, rfl, HL, hNb, hO, hTr, hbr⟩ := hrel
              clear h0
              by_cases hltz : i < Nh
              · have hlt' : i < m.length := by rw [← HNh.out]; exact hltz
                have hlong := HSH.out m[i] (List.getElem_mem hlt')
                have HYES := Lib.hid (fun h => nlist_yes (has := D.has U Ms) hlt' h)
                have HNO := Lib.hid (fun h => nlist_no (has := D.has U Ms) hlt' h)
                obtain ⟨ad, rfl, _, hrx, c0, c1, c2, c3, c4, c5, c6, c7, c8, c9, c10, c11, c12, c13⟩ := (hrm.below hbr fun b hb _ => hb).cells hlt'
                obtain ⟨x, hx⟩ : ∃ x, x = m[i] := ⟨_, rfl⟩
                rw [← hx] at hrx c0 c1 c2 c3 c4 c5 c6 c7 c8 c9 c10 c11 c12 c13 hlong HYES HNO
                obtain ⟨F, M, Ax, cx⟩ := x
                simp only at hrx c0 c1 c2 c3 c4 c5 c6 c7 c8 c9 c10 c11 c12 c13 hlong HYES HNO
                obtain ⟨q, hq⟩ : ∃ q, M.length = q := ⟨_, rfl⟩
                rw [hq] at c13 hlong
                have hqb : q ≤ 1000000 := by have := hlong.1; omega
                have HQ := Lib.hid hq
                have hm' := D.may_iff.1 hlong.2
                simp only at hm'
                obtain ⟨a9, ha9⟩ := Int.eq_ofNat_of_zero_le hm'.1
                obtain ⟨b9, hb9⟩ := Int.eq_ofNat_of_zero_le (show 0 ≤ F 1 by omega)
                have ha8 : a9 < 8 := by omega
                have hb98 : b9 < 98 := by omega
                have aI : (a9 : Int) < 8 := by omega
                have bI : (b9 : Int) < 98 := by omega
                have HA := Lib.hid ha9
                have HB := Lib.hid hb9
                obtain ⟨w5, hw5⟩ : ∃ W, wr.alloc (.cells (ecs F Ax q cx) 43) = W := ⟨_, rfl⟩
                obtain ⟨gx, hgx⟩ : ∃ q, q = wr.heap.size := ⟨_, rfl⟩
                have hb5 : Below wr.heap.size wr w5 := by rw [← hw5]; exact b_alloc _ _
                have hX5 : Blo w5 gx 43 (ecs F Ax q cx) := by rw [← hw5, hgx]; exact Blo.made _ _ _
                have hO5 := hO.new hb5
                have hT5 := hTr.new hb5
                have hbr5 := below_new hbr hb5
                have hrx5 := hrx.new hb5
                have hB5 : w.heap.size ≤ w5.heap.size := hbr5.size
                have HW5 := Lib.hid hw5
                have HGX := Lib.hid hgx
                have HXO : Hid ((Value.slice A6 N6 cc).ownBlock ≠ some gx) := Lib.hid (fun e => by have := (hO.row.lt gx e).2; omega)
                have HE0 : Hid (∀ V, Grows w5 V → V.cell? ⟨gx, 0, none⟩ = some (.int .i64 (a9 : Int))) := Lib.hid (fun V hV => by rw [← HA.out]; simpa using (hX5.new hV).cell 0)
                have HE1 : Hid (∀ V, Grows w5 V → V.cell? ⟨gx, 1, none⟩ = some (.int .i64 (b9 : Int))) := Lib.hid (fun V hV => by rw [← HB.out]; simpa using (hX5.new hV).cell 1)
                have HTC : Hid (∀ V, Grows w5 V → V.cell? ⟨gt, a9 * 98 + b9, none⟩ = some (.bool (H ((a9 : Int), (b9 : Int))))) := Lib.hid (fun V hV => ((hT5.new hV).cell ha8 hb98).1)
                obtain ⟨hv, hhv⟩ : ∃ z, z = H ((a9 : Int), (b9 : Int)) := ⟨_, rfl⟩
                have HHV : Hid (D.has U Ms (F 0, F 1) = hv) := Lib.hid (by rw [HA.out, HB.out, hhv, HH.out a9 b9 ha8 hb98])
                rw [← hhv] at HTC
                clear hx hq hw5 hgx hlong hO hTr hbr hrx hb5 hm' ha9 hb9 hhv
                by_cases hmo : (N6 : Int) < most
                · have qmo : decide ((N6 : Int) < most) = true := by simpa using hmo
                  have HLT : Hid ((ll.length : Int) < most) := Lib.hid (by rw [← HL.out.1]; exact hmo)
                  clear hmo
                  go_wp2_with fail
                  rw [HW5.out, ← HGX.out]
                  refine wp_fam (n := 16) (size := 80) (D := [57, 58, 59, 60, 61, 62, 63, 64, 65, 66, 67, 68, 69, 70, 71, 72]) [(57, isV (.slice A6 N6 cc)), (58, isV (.int .i64 (N6 : Int))), (59, isV (.int .i64 most)), (60, isV (.bool true)), (61, isV (.bool true)), (62, isV (.pointer (some ⟨gx, 0, none⟩))), (63, isV (.pointer (some ⟨gx, 0, none⟩))), (64, isV (.int .i64 (a9 : Int))), (65, isV (.pointer (some ⟨gx, 0, none⟩))), (66, isV (.pointer (some ⟨gx, 1, none⟩))), (67, isV (.int .i64 (b9 : Int))), (68, isV (.pointer (some ⟨gt, a9 * 98, none⟩))), (69, isV (.pointer (some ⟨gt, a9 * 98 + b9, none⟩))), (70, isV (.bool hv)), (71, isV (.bool (!hv))), (72, isV (.bool (!hv)))] (by kernel_rfl) (by rfl) (by kernel_rfl) ?_ ?_
                  · simp only [List.take_succ_cons, List.take_zero, famAll]
                    repeat' apply And.intro
                    · intro f V hg hl
                      simp [Oper.looksAt, Op.operands, Call.operands, famAt, famOf, isV] at hl
                      simp [famWants, boolIs_bool, boolIs_undef, execOp, rho, go_sem, hl, famUpon, famOf, isV, Grows.refl]
                    · intro f V hg hl
                      simp [Oper.looksAt, Op.operands, Call.operands, famAt, famOf, isV] at hl
                      simp [famWants, boolIs_bool, boolIs_undef, execOp, rho, go_sem, hl, famUpon, famOf, isV, Grows.refl]
                    · intro f V hg hl
                      simp [Oper.looksAt, Op.operands, Call.operands, famAt, famOf, isV] at hl
                      simp [famWants, boolIs_bool, boolIs_undef, execOp, rho, go_sem, hl, famUpon, famOf, isV, Grows.refl]
                    · intro f V hg hl
                      simp [Oper.looksAt, Op.operands, Call.operands, famAt, famOf, isV] at hl
                      simp [famWants, boolIs_bool, boolIs_undef, execOp, rho, go_sem, hl, qmo, famUpon, famOf, isV, Grows.refl]
                    · intro f V hg hl
                      simp [Oper.looksAt, Op.operands, Call.operands, famAt, famOf, isV] at hl
                      simp [famWants, boolIs_bool, boolIs_undef, execOp, rho, go_sem, hl, famUpon, famOf, isV, Grows.refl]
                    · intro f V hg hl
                      simp [Oper.looksAt, Op.operands, Call.operands, famAt, famOf, isV] at hl
                      simp [famWants, boolIs_bool, boolIs_undef, execOp, rho, go_sem, hl, famUpon, famOf, isV, Grows.refl]
                    · intro f V hg hl
                      simp [Oper.looksAt, Op.operands, Call.operands, famAt, famOf, isV] at hl
                      simp [famWants, boolIs_bool, boolIs_undef, execOp, rho, go_sem, hl, famUpon, famOf, isV, Grows.refl]
                    · intro f V hg hl
                      have k := HE0.out V hg
                      simp [Oper.looksAt, Op.operands, Call.operands, famAt, famOf, isV] at hl
                      simp [famWants, boolIs_bool, boolIs_undef, execOp, rho, go_sem, hl, k, famUpon, famOf, isV, Grows.refl]
                    · intro f V hg hl
                      simp [Oper.looksAt, Op.operands, Call.operands, famAt, famOf, isV] at hl
                      simp [famWants, boolIs_bool, boolIs_undef, execOp, rho, go_sem, hl, famUpon, famOf, isV, Grows.refl]
                    · intro f V hg hl
                      simp [Oper.looksAt, Op.operands, Call.operands, famAt, famOf, isV] at hl
                      simp [famWants, boolIs_bool, boolIs_undef, execOp, rho, go_sem, hl, famUpon, famOf, isV, Grows.refl]
                    · intro f V hg hl
                      have k := HE1.out V hg
                      simp [Oper.looksAt, Op.operands, Call.operands, famAt, famOf, isV] at hl
                      simp [famWants, boolIs_bool, boolIs_undef, execOp, rho, go_sem, hl, k, famUpon, famOf, isV, Grows.refl]
                    · intro f V hg hl
                      simp [Oper.looksAt, Op.operands, Call.operands, famAt, famOf, isV] at hl
                      simp [famWants, boolIs_bool, boolIs_undef, execOp, rho, go_sem, hl, aI, ha8, famUpon, famOf, isV, Grows.refl]
                    · intro f V hg hl
                      simp [Oper.looksAt, Op.operands, Call.operands, famAt, famOf, isV] at hl
                      simp [famWants, boolIs_bool, boolIs_undef, execOp, rho, go_sem, hl, bI, hb98, famUpon, famOf, isV, Grows.refl]
                    · intro f V hg hl
                      have k := HTC.out V hg
                      simp [Oper.looksAt, Op.operands, Call.operands, famAt, famOf, isV] at hl
                      simp [famWants, boolIs_bool, boolIs_undef, execOp, rho, go_sem, hl, k, famUpon, famOf, isV, Grows.refl]
                    · intro f V hg hl
                      simp [Oper.looksAt, Op.operands, Call.operands, famAt, famOf, isV] at hl
                      simp [famWants, boolIs_bool, boolIs_undef, execOp, rho, go_sem, hl, famUpon, famOf, isV, Grows.refl]
                    · intro f V hg hl
                      simp [Oper.looksAt, Op.operands, Call.operands, famAt, famOf, isV] at hl
                      simp [famWants, boolIs_bool, boolIs_undef, execOp, rho, go_sem, hl, famUpon, famOf, isV, Grows.refl]
                    · trivial
                  · intro u V hg hu
                    have e72 : u 72 = .bool (!hv) := hu 72 (by decide)
                    simp only [List.drop_succ_cons, List.drop_zero, fill, Act.put, List.setIfInBounds_toArray, List.set_cons_zero, List.set_cons_succ, e72]
                    refine wpList_nil ?_
                    have hXV := hX5.new hg
                    have hOV := hO5.new hg
                    have hTV := hT5.new hg
                    have hbV := below_new hbr5 hg
                    have hrV := hrx5.new hg
                    have hgx5 := hX5.lt
                    have hsV : w5.heap.size ≤ V.heap.size := Below.size hg
                    clear hu e72 HE0 HE1 HTC hX5 hO5 hT5 hrx5
                    cases hv with
                    | true =>
                      have HL' : Hid (N6 = ll.length ∧ plain ll = (nlist (D.has U Ms) (plain (m.take (i + 1)))).take most.toNat) := Lib.hid ⟨HL.out.1, by rw [HYES.out HHV.out]; exact HL.out.2⟩
                      clear HYES HNO
                      go_wp2
                      go_roundw
                      case rel => exact ⟨i + 1, by go_num, by omega, A6, N6, cc, ll, rfl, HL', by omega, hOV, hTV, hbV⟩
                      case measure => simp [intOf]; omega
                    | false =>
                      obtain ⟨z0, z1, z2, z3, z4, z5, z6, z7, z8, z9, z10, z11, z12, z13⟩ := set14 hXV
                      have hcp := ecopy_any _ F Ax q cx M V HQ.out hrV hqb
                      go_wp2_with fail
                      refine hcp.mono ?_
                      rintro e w6 ⟨Ac, c6', rfl, hC6, hb6⟩
                      rw [HQ.out]
                      have hO6 := hOV.new hb6
                      have hT6 := hTV.new hb6
                      have hb06 := below_new hbV hb6
                      have hs6 := hb6.size
                      obtain ⟨w7, hw7⟩ : ∃ W, w6.alloc (.cells (ecs F Ac q c6') 43) = W := ⟨_, rfl⟩
                      have hb7 : Below w6.heap.size w6 w7 := by rw [← hw7]; exact b_alloc _ _
                      have hs7 : w7.heap.size = w6.heap.size + 1 := by rw [← hw7]; simp
                      have hO7 := hO6.new hb7
                      have hT7 := hT6.new hb7
                      have hC7 := hC6.new hb7
                      have hb07 := below_new hb06 hb7
                      have hRd7 : Rds w7 (fun _ => True) (some ⟨w6.heap.size, 0, none⟩) (evs [(⟨F, M, Ac, c6'⟩ : EvV)]) := by
                        refine blo_ers (t := 43) _ ?_
                        unfold EvV.cells
                        simp only
                        rw [HQ.out, ← hw7]
                        exact Blo.made _ _ _
                      have hlen7 : ll.length + 1 ≤ 1000000 := by rw [← HL.out.1]; have := HN7.out; omega
                      have hsz7 : w.heap.size ≤ w7.heap.size := hb07.size
                      have hR7 := hO7.row
                      have HW7 := Lib.hid hw7
                      have HS7 := Lib.hid hs7
                      have HL' : Hid (N6 + 1 = (ll ++ [(⟨F, M, Ac, c6'⟩ : EvV)]).length ∧ plain (ll ++ [(⟨F, M, Ac, c6'⟩ : EvV)]) = (nlist (D.has U Ms) (plain (m.take (i + 1)))).take most.toNat) := Lib.hid ⟨by rw [List.length_append, ← HL.out.1]; rfl, by
                        rw [HNO.out HHV.out, ← take_len HL.out.2, if_pos HLT.out, plain_app]; rfl⟩
                      rw [← hw7] at hRd7 hsz7 hR7
                      clear hcp z0 z1 z2 z3 z4 z5 z6 z7 z8 z9 z10 z11 z12 z13 hw7 hs7 hb7 HYES HNO hOV hTV hO6 hT6 hC6
                      go_wp2_with (at_builtin; refine wpList_eapp' _ rfl _ _ rfl w.heap.size (.slice A6 N6 cc) ll rfl hR7 _ (some ⟨w6.heap.size, 0, none⟩) 1 1 [⟨F, M, Ac, c6'⟩] rfl rfl hRd7 hlen7 hsz7 ?_)
                      intro v9 w9 hr9 hg9 hv9
                      rw [HW7.out] at hg9
                      rw [← HS7.out] at hv9
                      have hO9 := hO7.snoc hr9 hg9 hv9 (copy_apart hO7 hC7 (fun b hb => Nat.le_trans (Nat.le_trans hB5 hsV) hb))
                      have hT9 := hT7.keep (hg9.block gt hT7.lt (hT7.row hO7.row))
                      have hb9 : Below w.heap.size w w9 := hb07.grown hg9 hb07.size (fun k hk => (hO7.row.lt k hk).1)
                      obtain ⟨A9, c9, rfl, _⟩ := hr9.form
                      rw [← HL'.out.1] at hO9 ⊢
                      clear hR7 hRd7 hr9 hg9 hv9 hO7 hT7 hC7
                      go_wp2
                      go_roundw
                      case rel => exact ⟨i + 1, by go_num, by omega, A9, N6 + 1, c9, _, rfl, HL', by omega, hO9, hT9, hb9⟩
                      case measure => simp [intOf]; omega
                · have qmo : decide ((N6 : Int) < most) = false := by simpa using hmo
                  have HL' : Hid (N6 = ll.length ∧ plain ll = (nlist (D.has U Ms) (plain (m.take (i + 1)))).take most.toNat) := Lib.hid ⟨HL.out.1, by
                    cases hv with
                    | true => rw [HYES.out HHV.out]; exact HL.out.2
                    | false => rw [HNO.out HHV.out, ← take_len HL.out.2, if_neg (by rw [← HL.out.1]; exact hmo)]⟩
                  clear hmo HYES HNO
                  go_wp2_with fail
                  rw [HW5.out, ← HGX.out]
                  refine wp_fam (n := 16) (size := 80) (D := [57, 58, 59, 60, 61, 62, 63, 64, 65, 66, 67, 68, 69, 70, 71, 72]) [(57, isV (.slice A6 N6 cc)), (58, isV (.int .i64 (N6 : Int))), (59, isV (.int .i64 most)), (60, isV (.bool false)), (61, isV (.bool false)), (62, isV undef), (63, isV undef), (64, isV undef), (65, isV undef), (66, isV undef), (67, isV undef), (68, isV undef), (69, isV undef), (70, isV undef), (71, isV undef), (72, isV (.bool false))] (by kernel_rfl) (by rfl) (by kernel_rfl) ?_ ?_
                  · simp only [List.take_succ_cons, List.take_zero, famAll]
                    repeat' apply And.intro
                    · intro f V hg hl
                      simp [Oper.looksAt, Op.operands, Call.operands, famAt, famOf, isV] at hl
                      simp [famWants, boolIs_bool, boolIs_undef, execOp, rho, go_sem, hl, famUpon, famOf, isV, Grows.refl]
                    · intro f V hg hl
                      simp [Oper.looksAt, Op.operands, Call.operands, famAt, famOf, isV] at hl
                      simp [famWants, boolIs_bool, boolIs_undef, execOp, rho, go_sem, hl, famUpon, famOf, isV, Grows.refl]
                    · intro f V hg hl
                      simp [Oper.looksAt, Op.operands, Call.operands, famAt, famOf, isV] at hl
                      simp [famWants, boolIs_bool, boolIs_undef, execOp, rho, go_sem, hl, famUpon, famOf, isV, Grows.refl]
                    · intro f V hg hl
                      simp [Oper.looksAt, Op.operands, Call.operands, famAt, famOf, isV] at hl
                      simp [famWants, boolIs_bool, boolIs_undef, execOp, rho, go_sem, hl, qmo, famUpon, famOf, isV, Grows.refl]
                    · intro f V hg hl
                      simp [Oper.looksAt, Op.operands, Call.operands, famAt, famOf, isV] at hl
                      simp [famWants, boolIs_bool, boolIs_undef, execOp, rho, go_sem, hl, famUpon, famOf, isV, Grows.refl]
                    · intro f V hg hl
                      simp [Oper.looksAt, Op.operands, Call.operands, famAt, famOf, isV] at hl
                      simp [famWants, boolIs_bool, boolIs_undef, execOp, rho, go_sem, hl, famUpon, famOf, isV, Grows.refl]
                    · intro f V hg hl
                      simp [Oper.looksAt, Op.operands, Call.operands, famAt, famOf, isV] at hl
                      simp [famWants, boolIs_bool, boolIs_undef, execOp, rho, go_sem, hl, famUpon, famOf, isV, Grows.refl]
                    · intro f V hg hl
                      simp [Oper.looksAt, Op.operands, Call.operands, famAt, famOf, isV] at hl
                      simp [famWants, boolIs_bool, boolIs_undef, execOp, rho, go_sem, hl, famUpon, famOf, isV, Grows.refl]
                    · intro f V hg hl
                      simp [Oper.looksAt, Op.operands, Call.operands, famAt, famOf, isV] at hl
                      simp [famWants, boolIs_bool, boolIs_undef, execOp, rho, go_sem, hl, famUpon, famOf, isV, Grows.refl]
                    · intro f V hg hl
                      simp [Oper.looksAt, Op.operands, Call.operands, famAt, famOf, isV] at hl
                      simp [famWants, boolIs_bool, boolIs_undef, execOp, rho, go_sem, hl, famUpon, famOf, isV, Grows.refl]
                    · intro f V hg hl
                      simp [Oper.looksAt, Op.operands, Call.operands, famAt, famOf, isV] at hl
                      simp [famWants, boolIs_bool, boolIs_undef, execOp, rho, go_sem, hl, famUpon, famOf, isV, Grows.refl]
                    · intro f V hg hl
                      simp [Oper.looksAt, Op.operands, Call.operands, famAt, famOf, isV] at hl
                      simp [famWants, boolIs_bool, boolIs_undef, execOp, rho, go_sem, hl, famUpon, famOf, isV, Grows.refl]
                    · intro f V hg hl
                      simp [Oper.looksAt, Op.operands, Call.operands, famAt, famOf, isV] at hl
                      simp [famWants, boolIs_bool, boolIs_undef, execOp, rho, go_sem, hl, famUpon, famOf, isV, Grows.refl]
                    · intro f V hg hl
                      simp [Oper.looksAt, Op.operands, Call.operands, famAt, famOf, isV] at hl
                      simp [famWants, boolIs_bool, boolIs_undef, execOp, rho, go_sem, hl, famUpon, famOf, isV, Grows.refl]
                    · intro f V hg hl
                      simp [Oper.looksAt, Op.operands, Call.operands, famAt, famOf, isV] at hl
                      simp [famWants, boolIs_bool, boolIs_undef, execOp, rho, go_sem, hl, famUpon, famOf, isV, Grows.refl]
                    · intro f V hg hl
                      simp [Oper.looksAt, Op.operands, Call.operands, famAt, famOf, isV] at hl
                      simp [famWants, boolIs_bool, boolIs_undef, execOp, rho, go_sem, hl, famUpon, famOf, isV, Grows.refl]
                    · trivial
                  · intro u V hg hu
                    have e72 : u 72 = .bool false := hu 72 (by decide)
                    simp only [List.drop_succ_cons, List.drop_zero, fill, Act.put, List.setIfInBounds_toArray, List.set_cons_zero, List.set_cons_succ, e72]
                    refine wpList_nil ?_
                    have hOV := hO5.new hg
                    have hTV := hT5.new hg
                    have hbV := below_new hbr5 hg
                    clear hu e72 HE0 HE1 HTC hX5 hO5 hT5 hrx5
                    go_wp2
                    go_roundw
                    case rel => exact ⟨i + 1, by go_num, by omega, A6, N6, cc, ll, rfl, HL', by omega, hOV, hTV, hbV⟩
                    case measure => simp [intOf]; omega
              · have HEND : Hid (plain ll = B.newer b (D.has U Ms) most) := Lib.hid (by
                  have e0 : m.take i = m := List.take_of_length_le (by rw [← HNh.out]; omega)
                  rw [HL.out.2, e0, HPL.out]
                  rfl)
                go_wp2
                go_ret
                exact ⟨A6, N6, cc, ll, rfl, Lib.hid HL.out.1, HEND.out, hO, hbr⟩
end Go.Proofs.Ytedcgfcmhaeldaa
