/- Layer 7, the document's own: All (of the same). | Layer 7, the document's own: Great. | Rows of events as a law's arguments: each with its dots, none of them of a size beyond all addresses. | Layer 8, the law's own: knows. | Layer 8: books that are fed, in a law's world. -/
import Derived.Test.YtedcgfcmhaeldaaEvMem
import Derived.Test.YtedcgfcmhaeldaaEvRefSame
import Derived.Test.YtedcgfcmhaeldaaFam
import Derived.SizedLaws
import Derived.Test.YtedcgfcmhaeldaaBkLaw
import Derived.Test.YtedcgfcmhaeldaaBkP8
import Derived.Test.YtedcgfcmhaeldaaBkP9
import Derived.Test.YtedcgfcmhaeldaaDotRow
import Derived.Test.YtedcgfcmhaeldaaBkAlive

section
namespace Go.Proofs.Ytedcgfcmhaeldaa
set_option linter.unusedVariables false
set_option linter.unusedSimpArgs false
open Go.ChangeShapes Go.WideShapes Go.ChangeAt Go.RowKit

/-- Events that are the same in all that counts. -/
def Alike (l m : List EvV) : Prop := l.length = m.length ∧ ∀ i (hi : i < l.length) (hj : i < m.length), l[i].M = m[i].M ∧ ∀ k, k < 13 → l[i].F k = m[i].F k
theorem alike_plain {l m : List EvV} (h : plain l = plain m) : Alike l m := by
  have hl : l.length = m.length := by rw [← plain_len l, h, plain_len]
  refine ⟨hl, fun i hi hj => ?_⟩
  have h1 : (plain l)[i]? = (plain m)[i]? := by rw [h]
  simp [plain, hi, hj] at h1
  exact ⟨h1.2, fun k _ => by rw [h1.1]⟩
/-- The cells of an event at an address. -/
def EvAt (w : World) (p : Addr) (F : Nat → Int) (A : Option Addr) (n c : Nat) : Prop :=
  w.cell? p = some (.int .i64 (F 0)) ∧ ∀ k v, 0 < k → (ecs F A n c)[k]? = some v → w.cell? ⟨p.block, p.off + k, none⟩ = some v
theorem EvAt.up {w w' : World} {p : Addr} {F : Nat → Int} {A : Option Addr} {n c : Nat} (h : EvAt w p F A n c) (hg : Grows w w') : EvAt w' p F A n c := ⟨cell_up h.1 hg, fun k v hk hv => cell_up (h.2 k v hk hv) hg⟩
theorem EvAt.all {w : World} {p : Addr} {F : Nat → Int} {A : Option Addr} {n c : Nat} (h : EvAt w p F A n c) :
    w.cell? p = some (.int .i64 (F 0)) ∧ w.cell? ⟨p.block, p.off + 1, none⟩ = some (.int .i64 (F 1)) ∧ w.cell? ⟨p.block, p.off + 2, none⟩ = some (.int .i64 (F 2)) ∧ w.cell? ⟨p.block, p.off + 3, none⟩ = some (.int .i64 (F 3)) ∧ w.cell? ⟨p.block, p.off + 4, none⟩ = some (.int .i64 (F 4)) ∧ w.cell? ⟨p.block, p.off + 5, none⟩ = some (.int .i64 (F 5)) ∧ w.cell? ⟨p.block, p.off + 6, none⟩ = some (.int .i64 (F 6)) ∧ w.cell? ⟨p.block, p.off + 7, none⟩ = some (.int .i64 (F 7)) ∧ w.cell? ⟨p.block, p.off + 8, none⟩ = some (.int .i64 (F 8)) ∧ w.cell? ⟨p.block, p.off + 9, none⟩ = some (.int .i64 (F 9)) ∧ w.cell? ⟨p.block, p.off + 10, none⟩ = some (.int .i64 (F 10)) ∧ w.cell? ⟨p.block, p.off + 11, none⟩ = some (.int .i64 (F 11)) ∧ w.cell? ⟨p.block, p.off + 12, none⟩ = some (.int .i64 (F 12)) ∧ w.cell? ⟨p.block, p.off + 13, none⟩ = some (.slice A n c) :=
  ⟨h.1, h.2 1 _ (by omega) rfl, h.2 2 _ (by omega) rfl, h.2 3 _ (by omega) rfl, h.2 4 _ (by omega) rfl, h.2 5 _ (by omega) rfl, h.2 6 _ (by omega) rfl, h.2 7 _ (by omega) rfl, h.2 8 _ (by omega) rfl, h.2 9 _ (by omega) rfl, h.2 10 _ (by omega) rfl, h.2 11 _ (by omega) rfl, h.2 12 _ (by omega) rfl, h.2 13 _ (by omega) rfl⟩

set_option maxRecDepth 100000 in
set_option maxHeartbeats 4000000 in
theorem eall_yes (S T : Nat → Prop) (A B : Option Addr) (n c d : Nat) (l m : List EvV) (w : World) (hn : l.length = n) (hS : Alike l m) (hA : ERds w S A l) (hB : ERds w T B m) (hl : n ≤ maxLen) (hm : ∀ e ∈ l, e.M.length ≤ 1000000) :
    Calls Try.prog 16 #[.slice A n c, .slice B n d] w fun e w' => e = .returned (.bool true) ∧ Below w.heap.size w w' := by
  have HN := Lib.hid hn
  have HM := Lib.hid hm
  have HS := Lib.hid hS
  unfold maxLen at hl
  clear hn hm hS
  go_enter Try.func16, Try.ntmps16
  go_wp2_with fail
  go_loopw [13] (fun iv wr => ∃ i : Nat, iv = .int .i64 i ∧ i ≤ n ∧ Below w.heap.size w wr) (fun iv _ => n - (intOf iv).toNat)
  case atStart => exact ⟨0, rfl, by omega, Below.refl _ _⟩
  case round =>
    obtain ⟨i, rfl, hi, hb⟩ := hrel
    by_cases hlt : i < n
    · have hi1 : (i : Int) < (n : Int) := by omega
      have hlt1 : i < l.length := by rw [HN.out]; exact hlt
      have hlt2 : i < m.length := by rw [← HS.out.1]; exact hlt1
      obtain ⟨ad, rfl, _, a0, ak, har⟩ := (hA.new hb).ev hlt1
      obtain ⟨bd, rfl, _, b0, bk, hbr⟩ := (hB.new hb).ev hlt2
      obtain ⟨hMM, hFF⟩ := HS.out.2 i hlt1 hlt2
      have hxl : l[i].M.length ≤ 1000000 := HM.out _ (List.getElem_mem hlt1)
      obtain ⟨x, hx⟩ : ∃ x, x = l[i] := ⟨_, rfl⟩
      obtain ⟨y, hy⟩ : ∃ y, y = m[i] := ⟨_, rfl⟩
      rw [← hx] at a0 ak har hMM hFF hxl
      rw [← hy] at b0 bk hbr hMM hFF
      have hEA : EvAt wr (ad.add (i * 14)) x.F x.A x.M.length x.c := ⟨a0, ak⟩
      have hEB : EvAt wr (bd.add (i * 14)) y.F y.A y.M.length y.c := ⟨b0, bk⟩
      have HEA : Hid (∀ V, Grows wr V → _) := Lib.hid (fun V hV => (hEA.up hV).all)
      have HEB : Hid (∀ V, Grows wr V → _) := Lib.hid (fun V hV => (hEB.up hV).all)
      have HCA : Hid (∀ V, Grows wr V → Calls Try.prog 45 #[ev x.F x.A x.M.length x.c, ev y.F y.A y.M.length y.c] V fun e w' => e = .returned (.bool true) ∧ Below V.heap.size V w') := Lib.hid (fun V hV => by
        have h1 : ev y.F y.A y.M.length y.c = ev x.F y.A x.M.length y.c := by rw [ev_congr (fun k hk => (hFF k hk).symm), hMM]
        rw [h1]
        exact esame_yes _ _ x.F x.A y.A x.M.length x.c y.c x.M V rfl (har.new hV) (by rw [hMM]; exact hbr.new hV) hxl)
      clear hx hy hEA hEB a0 ak har b0 bk hbr hMM hFF hxl
      obtain ⟨xF, xM, xA, xc⟩ := x
      obtain ⟨yF, yM, yA, yc⟩ := y
      simp only at HEA HEB HCA
      obtain ⟨xn, hxn⟩ : ∃ q, q = xM.length := ⟨_, rfl⟩
      obtain ⟨yn, hyn⟩ : ∃ q, q = yM.length := ⟨_, rfl⟩
      rw [← hxn] at HEA HCA
      rw [← hyn] at HEB HCA
      clear hxn hyn
      go_wp2_with fail
      refine wp_fam (n := 10) (size := 27) (D := [16, 17, 18, 19, 20, 21, 22, 23, 24, 25]) [(16, isV (.slice (some ad) n c)), (17, isV (.int .i64 (i : Int))), (18, isV (.pointer (some (ad.add (i * 14))))), (19, isV (ev xF xA xn xc)), (20, isV (.slice (some bd) n d)), (21, isV (.int .i64 (i : Int))), (22, isV (.pointer (some (bd.add (i * 14))))), (23, isV (ev yF yA yn yc)), (24, isV (.bool true)), (25, isV (.bool false))] (by kernel_rfl) (by rfl) (by kernel_rfl) ?_ ?_
      · simp only [List.take_succ_cons, List.take_zero, famAll]
        repeat' apply And.intro
        · intro f V hg hl
          simp [Oper.looksAt, Op.operands, Call.operands, famAt, famOf, isV] at hl
          simp [famWants, boolIs_bool, boolIs_undef, execOp, rho, go_sem, hl, famUpon, famOf, isV, Grows.refl]
        · intro f V hg hl
          simp [Oper.looksAt, Op.operands, Call.operands, famAt, famOf, isV] at hl
          simp [famWants, boolIs_bool, boolIs_undef, execOp, rho, go_sem, hl, famUpon, famOf, isV, Grows.refl]
        · intro f V hg hl
          simp [Oper.looksAt, Op.operands, Call.operands, famAt, famOf, isV] at hl
          simp [famWants, boolIs_bool, boolIs_undef, execOp, rho, go_sem, hl, hi1, hlt, famUpon, famOf, isV, Grows.refl]
        · intro f V hg hl
          obtain ⟨c0, c1, c2, c3, c4, c5, c6, c7, c8, c9, c10, c11, c12, c13⟩ := HEA.out V hg
          simp [Oper.looksAt, Op.operands, Call.operands, famAt, famOf, isV] at hl
          simp [famWants, boolIs_bool, boolIs_undef, execOp, rho, go_sem, hl, c0, c1, c2, c3, c4, c5, c6, c7, c8, c9, c10, c11, c12, c13, famUpon, famOf, isV, Grows.refl]
        · intro f V hg hl
          simp [Oper.looksAt, Op.operands, Call.operands, famAt, famOf, isV] at hl
          simp [famWants, boolIs_bool, boolIs_undef, execOp, rho, go_sem, hl, famUpon, famOf, isV, Grows.refl]
        · intro f V hg hl
          simp [Oper.looksAt, Op.operands, Call.operands, famAt, famOf, isV] at hl
          simp [famWants, boolIs_bool, boolIs_undef, execOp, rho, go_sem, hl, famUpon, famOf, isV, Grows.refl]
        · intro f V hg hl
          simp [Oper.looksAt, Op.operands, Call.operands, famAt, famOf, isV] at hl
          simp [famWants, boolIs_bool, boolIs_undef, execOp, rho, go_sem, hl, hi1, hlt, famUpon, famOf, isV, Grows.refl]
        · intro f V hg hl
          obtain ⟨c0, c1, c2, c3, c4, c5, c6, c7, c8, c9, c10, c11, c12, c13⟩ := HEB.out V hg
          simp [Oper.looksAt, Op.operands, Call.operands, famAt, famOf, isV] at hl
          simp [famWants, boolIs_bool, boolIs_undef, execOp, rho, go_sem, hl, c0, c1, c2, c3, c4, c5, c6, c7, c8, c9, c10, c11, c12, c13, famUpon, famOf, isV, Grows.refl]
        · intro f V hg hl
          simp [Oper.looksAt, Op.operands, Call.operands, famAt, famOf, isV] at hl
          simp [famWants, boolIs_bool, boolIs_undef, execOp, rho, go_sem, hl, famUpon, famOf, isV, Grows.refl]
          refine (HCA.out V hg).mono ?_
          rintro e w'' ⟨rfl, hb'⟩
          exact ⟨rfl, hb'⟩
        · intro f V hg hl
          simp [Oper.looksAt, Op.operands, Call.operands, famAt, famOf, isV] at hl
          simp [famWants, boolIs_bool, boolIs_undef, execOp, rho, go_sem, hl, famUpon, famOf, isV, Grows.refl]
        · trivial
      · intro u V hg hu
        have e25 : u 25 = .bool false := hu 25 (by decide)
        simp only [List.drop_succ_cons, List.drop_zero, fill, Act.put, List.setIfInBounds_toArray, List.set_cons_zero, List.set_cons_succ, e25]
        refine wpList_nil ?_
        have hb2 := below_new hb hg
        clear hu e25 HEA HEB HCA
        go_wp2
        go_roundw
        case rel => exact ⟨i + 1, by go_num, by omega, hb2⟩
        case measure => simp [intOf]; omega
    · go_wp2
      go_ret
      exact ⟨rfl, hb⟩
end Go.Proofs.Ytedcgfcmhaeldaa
end

section
namespace Go.Proofs.Ytedcgfcmhaeldaa
set_option linter.unusedVariables false
set_option linter.unusedSimpArgs false
open Go.ChangeShapes Go.WideShapes Go.ChangeAt Go.RowKit

/-- How much events come to. -/
def bulk : List EvV → Int
  | [] => 0
  | e :: l => 1 + (e.M.length : Int) + bulk l
theorem bulk_snoc (l : List EvV) (e : EvV) : bulk (l ++ [e]) = bulk l + (1 + (e.M.length : Int)) := by
  induction l with
  | nil => simp [bulk]
  | cons x l ih => simp [bulk, ih]; omega
theorem bulk_len (l : List EvV) : (l.length : Int) ≤ bulk l := by
  induction l with
  | nil => simp [bulk]
  | cons x l ih => simp [bulk]; omega
theorem bulk_mem {l : List EvV} {e : EvV} (h : e ∈ l) : (e.M.length : Int) ≤ bulk l := by
  induction l with
  | nil => cases h
  | cons x l ih =>
    have := bulk_len l
    rcases List.mem_cons.1 h with rfl | h
    · simp [bulk]; omega
    · have := ih h
      simp [bulk]; omega
/-- None is of a length beyond all machines. -/
def Meek (l : List EvV) : Prop := ∀ e ∈ l, e.M.length ≤ 8796093022208
def GreatPost (l : List EvV) (w : World) (e : Ending) (w' : World) : Prop := ∃ b : Bool, e = .returned (.bool b) ∧ Below w.heap.size w w' ∧ (b = false → Meek l → bulk l ≤ 3000)

set_option maxRecDepth 100000 in
set_option maxHeartbeats 4000000 in
theorem great_any (S : Nat → Prop) (A : Option Addr) (n c : Nat) (l : List EvV) (w : World) (hn : l.length = n) (hr : ERds w S A l) (hl : n ≤ maxLen) :
    Calls Try.prog 10 #[.slice A n c] w (GreatPost l w) := by
  have HN := Lib.hid hn
  unfold maxLen at hl
  clear hn
  go_enter Try.func10, Try.ntmps10
  go_wp2_with fail
  go_loopw [3, 8] (fun sv iv wr => ∃ (i : Nat) (s : Int), iv = .int .i64 i ∧ i ≤ n ∧ sv = .int .i64 s ∧ Hid (Meek l → s = bulk (l.take i) ∧ s ≤ 3000) ∧ Below w.heap.size w wr) (fun _ iv _ => n - (intOf iv).toNat)
  case atStart => exact ⟨0, 0, rfl, by omega, rfl, Lib.hid (fun _ => ⟨by simp [bulk], by omega⟩), Below.refl _ _⟩
  case round =>
    obtain ⟨i, s, rfl, hi, rfl, HS, hb⟩ := hrel
    by_cases hlt : i < n
    · have hlt' : i < l.length := by rw [HN.out]; exact hlt
      obtain ⟨ad, rfl, _, _, c0, c1, c2, c3, c4, c5, c6, c7, c8, c9, c10, c11, c12, c13⟩ := (hr.new hb).cells hlt'
      obtain ⟨x, hx⟩ : ∃ x, x = l[i] := ⟨_, rfl⟩
      rw [← hx] at c0 c1 c2 c3 c4 c5 c6 c7 c8 c9 c10 c11 c12 c13
      have HX := Lib.hid hx
      obtain ⟨s', hs'⟩ : ∃ s', s' = wrap64 (s + wrap64 (1 + (x.M.length : Int))) := ⟨_, rfl⟩
      have HS' : Hid (Meek l → s' = bulk (l.take (i + 1))) := Lib.hid (fun hm => by
        obtain ⟨h1, h2⟩ := HS.out hm
        have hx1 : x.M.length ≤ 8796093022208 := by rw [hx]; exact hm _ (List.getElem_mem hlt')
        have hs0 : 0 ≤ s := by rw [h1]; have := bulk_len (l.take i); omega
        rw [hs', IntWalk.wrap64_in (1 + (x.M.length : Int)) (by omega), IntWalk.wrap64_in _ (by omega), List.take_succ_eq_append_getElem hlt', bulk_snoc, ← hx, h1])
      have hs2 := hs'.symm
      clear hx hs'
      by_cases h3 : 3000 < s'
      · go_wp2
        go_ret
        exact ⟨true, rfl, below_new hb (b_alloc _ _), fun h => by cases h⟩
      · have HS3 : Hid (Meek l → s' = bulk (l.take (i + 1)) ∧ s' ≤ 3000) := Lib.hid (fun hm => ⟨HS'.out hm, by omega⟩)
        go_wp2
        go_roundw
        case rel => exact ⟨i + 1, s', by go_num, by omega, by rw [hs2], HS3, below_new hb (b_alloc _ _)⟩
        case measure => simp [intOf]; omega
    · have HF : Hid (Meek l → bulk l ≤ 3000) := Lib.hid (fun hm => by
        obtain ⟨h1, h2⟩ := HS.out hm
        rw [List.take_of_length_le (by rw [HN.out]; omega)] at h1
        omega)
      go_wp2
      go_ret
      exact ⟨false, rfl, hb, fun _ => HF.out⟩
end Go.Proofs.Ytedcgfcmhaeldaa
end

section
namespace Go.Proofs.Ytedcgfcmhaeldaa
set_option linter.unusedVariables false
set_option linter.unusedSimpArgs false
open Go.ChangeShapes Go.WideShapes Go.ChangeAt Go.RowKit Go.Deep

theorem Try.bytesDot : Try.prog.bytesOf 39 = 16 := by kernel_rfl
theorem reach_le : reachBytes ≤ 140737488355328 := by decide
theorem weights_all {H : Type} {P : Program} {e : TypeId} : ∀ {l : List (DataW H)} {d : DataW H}, d ∈ l → ∀ n ∈ d.weights P e, n ∈ DataW.weightsAll P e l
  | x :: l, d, hd, n, hn => by
    simp only [DataW.weightsAll, List.mem_append]
    rcases List.mem_cons.1 hd with rfl | hd
    · exact .inl hn
    · exact .inr (weights_all hd n hn)
instance : Inhabited EvV := ⟨⟨fun _ => 0, [], none, 0⟩⟩
section
variable {H : Type} {enc : TypeId × Value → H} {w : World} {base : Nat}
/-- How many dots a row that is met may have. -/
theorem dots_sized {fuel : Nat} {A : Option Addr} {n c : Nat} {y : DataW H × List MemPlace} (hf : DataW.trod enc Try.prog w 0 (fun _ => true) true fuel 24 [.slice A n c] = some y) (hz : ∀ k ∈ y.1.weights Try.prog 24, k ≤ reachBytes) : n ≤ 8796093022208 := by
  rcases open_slice_pairs Try.underlying24 Try.underlying39 Try.cellsDot rfl rfl Try.cellsInt Try.cellsInt hf with ⟨hcs, _⟩ | ⟨x, ln, cp, m, n', V0, V1, D0, D1, P0, P1, hcs, _, hl, hm, hmm, rfl, hcell⟩
  · simp at hcs; omega
  · simp at hcs
    obtain ⟨_, rfl, _⟩ := hcs
    have h1 := hz ((n + (m - n)) * 16) (by simp [DataW.weights, Try.underlying24, Try.bytesDot])
    have h2 := reach_le
    have h3 : n ≤ n + (m - n) := by omega
    omega
set_option maxRecDepth 1000000 in
theorem open_ev_sized {fuel : Nat} {cs : List Value} {y : DataW H × List MemPlace} (hf : DataW.trod enc Try.prog w 0 (fun _ => true) true fuel 43 cs = some y) (hz : ∀ k ∈ y.1.weights Try.prog 43, k ≤ reachBytes) :
    ∃ F A n c M, cs = (ecs F A n c).toList ∧ EvIn w A n c M ∧ n ≤ 8796093022208 := by
  obtain ⟨F, A, n, c, M, rfl, hin⟩ := open_ev hf
  refine ⟨F, A, n, c, M, rfl, hin, ?_⟩
  obtain ⟨xs, m, _, rfl, hlen, hx, hg⟩ := DataW.trod_struct Try.underlying43 hf
  have hl6 : 6 < xs.length := by rw [hx]; decide
  have h6 : DataW.trod enc Try.prog w 0 (fun _ => true) true m 24 (([.slice A n c] : List Value).take (Try.prog.cellsOf 24)) = xs[6]? := hg 6 _ rfl
  rw [List.getElem?_eq_getElem hl6, Try.cellsDots] at h6
  refine dots_sized (A := A) (c := c) h6 (fun k hk => hz k ?_)
  simp only [DataW.weights, Try.underlying43]
  exact DataW.weights_mem_each (j := 6) (t := 24) (d := xs[6].1) rfl (by rw [List.getElem?_map, List.getElem?_eq_getElem hl6]; rfl) k hk

/-- Events that came in. -/
def EvsIn (w : World) (A : Option Addr) (n c : Nat) (l : List EvV) : Prop := l.length = n ∧ n ≤ c ∧ c ≤ maxLen ∧ ERds w (· < w.heap.size) A l ∧ Meek l
set_option maxRecDepth 1000000 in
theorem open_evs {fuel : Nat} {cs : List Value} {y : DataW H × List MemPlace} (hf : DataW.trod enc Try.prog w 0 (fun _ => true) true fuel 22 cs = some y) (hz : ∀ k ∈ y.1.weights Try.prog 22, k ≤ reachBytes) :
    ∃ A n c l, cs = [.slice A n c] ∧ EvsIn w A n c l := by
  rcases open_slice Try.underlying22 hf with ⟨rfl, _⟩ | ⟨a, len, cap, m, nf, D, Pl, rfl, hb, hl, hm, hmm, rfl, hx⟩
  · exact ⟨none, 0, 0, [], rfl, rfl, Nat.le_refl _, by unfold maxLen; omega, ⟨Rds.nil, fun e he => by cases he⟩, fun e he => by cases he⟩
  · have hm' : len ≤ m := by rw [hmm]; split <;> omega
    have each : ∀ i, i < len → ∃ x : EvV, (∀ k, k < 14 → w.cell? (a.add (i * 14 + k)) = x.cells[k]?) ∧ Rds w (· < w.heap.size) x.A (dvs x.M) ∧ x.M.length ≤ 8796093022208 := by
      intro i hi
      obtain ⟨cs', h1, h2⟩ := hx i (by omega)
      rw [Try.cellsEvent] at h1
      obtain ⟨_, hlen, hcell⟩ := World.cells?_some h1
      obtain ⟨F, A, n, c, M, rfl, ⟨rfl, hnc, hcm, hr⟩, hM⟩ := open_ev_sized h2 (fun k hk => hz k (by
        simp only [DataW.weights, Try.underlying22, List.mem_cons, List.mem_append]
        exact .inr (.inl (weights_all (List.mem_map.2 ⟨i, List.mem_range.2 hi, rfl⟩) k hk))))
      refine ⟨⟨F, M, A, c⟩, fun k hk => ?_, hr, hM⟩
      have := hcell k hk
      rw [add_add] at this
      rw [this]
      simp
    obtain ⟨q, hq⟩ := choose_lt each
    refine ⟨some a, len, cap, (List.range len).map q, rfl, by simp, hl, hm, ⟨?_, ?_⟩, ?_⟩
    · intro j u hu
      have hj : j < len * 14 := by
        rcases Nat.lt_or_ge j (len * 14) with h | h
        · exact h
        · rw [List.getElem?_eq_none (by rw [evs_len]; simpa using h)] at hu; cases hu
      have hi : j / 14 < len := by omega
      have hat := evs_at ((List.range len).map q) (j / 14) (by simpa using hi) (j % 14) (by omega)
      rw [show j / 14 * 14 + j % 14 = j by omega, hu] at hat
      have hc := (hq (j / 14) hi).1 (j % 14) (by omega)
      rw [show j / 14 * 14 + j % 14 = j by omega] at hc
      have hc2 : w.cell? (a.add j) = some u := by
        rw [hc]
        simpa using hat.symm
      have hlt := Go.Proofs.Ytedcgfcmhaeldaa.M.cellLt hc2
      rw [Go.Proofs.Ytedcgfcmhaeldaa.M.addBlock] at hlt
      exact ⟨a, rfl, hlt, hc2⟩
    · intro e he
      obtain ⟨i, hi, rfl⟩ := List.mem_map.1 he
      exact (hq i (List.mem_range.1 hi)).2.1
    · intro e he
      obtain ⟨i, hi, rfl⟩ := List.mem_map.1 he
      exact (hq i (List.mem_range.1 hi)).2.2
set_option maxRecDepth 1000000 in
theorem arg_evs {v : Value} {d : DataW H} {p : List MemPlace} (ho : Value.okWide Try.prog w .any base 22 v) (hk : DataW.Trod enc Try.prog w 0 (fun _ => true) true 22 v d p) (hz : ∀ k ∈ d.weights Try.prog 22, k ≤ reachBytes) :
    ∃ A n c l, v = .slice A n c ∧ EvsIn w A n c l := by
  obtain ⟨a, len, cap, rfl⟩ := okWide_slice Try.underlying22 ho
  obtain ⟨fuel, hf⟩ := hk
  obtain ⟨A, n, c, l, e, h⟩ := open_evs hf hz
  refine ⟨A, n, c, l, ?_, h⟩
  simpa [Value.cells] using e
end
end Go.Proofs.Ytedcgfcmhaeldaa
end

section
namespace Go.Proofs.Ytedcgfcmhaeldaa
set_option linter.unusedVariables false
set_option linter.unusedSimpArgs false
open Go.ChangeShapes Go.WideShapes Go.ChangeAt Go.RowKit

/-- The rows of what holds are short. -/
theorem hold_short {b : B.Bk} (h : B.Ok b) {l : List EvV} (hl : ∀ x ∈ plain l, x ∈ b.hold) : ∀ e ∈ l, e.M.length ≤ 1000000 := fun e he => by
  have h1 := hl (e.F, e.M) (List.mem_map.2 ⟨e, he, rfl⟩)
  have := (B.right_may (h.rt _ h1)).2.2.2.2
  simp only at this
  omega
theorem saw_ext {a b : B.Bk} (h : ∀ d, a.saw d = b.saw d) : a.saw = b.saw := funext h
set_option maxRecDepth 100000 in
set_option maxHeartbeats 4000000 in
theorem knows_any {w0 W : World} {ga gb : Nat} {ma mb : Option Nat} {a b : B.Bk} (h : Two w0 W ga gb ma mb a b) (hs : ∀ d, a.saw d = b.saw d) (hh : a.hold = b.hold) (hlen : a.hold.length ≤ 1000000) :
    Calls Try.prog 33 #[.pointer (some ⟨ga, 0, none⟩), .pointer (some ⟨gb, 0, none⟩)] W fun e w' => e = .returned (.bool true) ∧ Below W.heap.size W w' := by
  have h1 := bseen_any W h.a.pb
  obtain ⟨U, hU⟩ : ∃ U, U = D.cU a.saw := ⟨_, rfl⟩
  obtain ⟨M, hM⟩ : ∃ M, M = D.cM a.saw := ⟨_, rfl⟩
  obtain ⟨n, hn⟩ : ∃ n, M.length = n := ⟨_, rfl⟩
  have hnl : n ≤ 1000000 := by rw [← hn, hM]; exact Nat.le_trans (D.cM_len _) (by omega)
  have e0 : b.saw = a.saw := (saw_ext hs).symm
  rw [← hU, ← hM] at h1
  have HB : Hid (∀ V, Below W.heap.size W V → Calls Try.prog 19 #[.pointer (some ⟨gb, 0, none⟩)] V (CopyPost U M V)) := Lib.hid (fun V hV => by
    have := bseen_any V (h.new hV).b.pb
    rw [e0, ← hU, ← hM] at this
    exact this)
  have HEA : Hid (∀ V, Below W.heap.size W V → Calls Try.prog 15 #[.pointer (some ⟨ga, 0, none⟩)] V (NewP a.hold V)) := Lib.hid (fun V hV => bevents_any V (h.new hV).a.pb)
  have HEB : Hid (∀ V, Below W.heap.size W V → Calls Try.prog 15 #[.pointer (some ⟨gb, 0, none⟩)] V (NewP a.hold V)) := Lib.hid (fun V hV => by
    rw [hh]
    exact bevents_any V (h.new hV).b.pb)
  have HOK := Lib.hid h.a.pb.1
  have HN := Lib.hid hn
  clear hU hM hn e0 hs hh h
  go_enter Try.func33, Try.ntmps33
  go_wp2_with fail
  refine h1.mono ?_
  rintro e w1 ⟨A1, c1, rfl, hC1, hb1⟩
  rw [HN.out]
  have h2 := from_any _ U A1 n c1 M w1 HN.out hC1.rds hnl
  clear h1
  go_wp2_with fail
  refine h2.mono ?_
  rintro e w2 ⟨A2, c2, rfl, hC2, hb2⟩
  rw [HN.out]
  have hb02 := below_new hb1 hb2
  have h3 := HB.out w2 hb02
  clear h2 hC1
  go_wp2_with fail
  refine h3.mono ?_
  rintro e w3 ⟨A3, c3, rfl, hC3, hb3⟩
  rw [HN.out]
  have hb03 := below_new hb02 hb3
  have h4 := from_any _ U A3 n c3 M w3 HN.out hC3.rds hnl
  have hC2' := hC2.new hb3
  clear h3 hC2
  go_wp2_with fail
  refine h4.mono ?_
  rintro e w4 ⟨A4, c4, rfl, hC4, hb4⟩
  rw [HN.out]
  have hb04 := below_new hb03 hb4
  have h5 := rsame_yes _ _ U A2 A4 n c2 c4 M w4 HN.out (hC2'.new hb4).rds hC4.rds hnl
  clear h4 hC2' hC3
  go_wp2_with fail
  refine h5.mono ?_
  rintro e w5 ⟨rfl, hb5⟩
  have hb05 := below_new hb04 hb5
  have h6 := HEA.out w5 hb05
  clear h5 hC4
  go_wp2_with fail
  refine h6.mono ?_
  rintro e w6 ⟨A6, N6, c6, l6, rfl, HN6, hl6, hO6, hb6⟩
  have hb06 := below_new hb05 hb6
  have h7 := HEB.out w6 hb06
  clear h6
  go_wp2_with fail
  refine h7.mono ?_
  rintro e w7 ⟨A7, N7, c7, l7, rfl, HN7, hl7, hO7, hb7⟩
  have hb07 := below_new hb06 hb7
  have hNN : N7 = N6 := by rw [HN7.out, HN6.out, ← plain_len, ← plain_len, hl6, hl7]
  subst hNN
  have h8 := eall_yes _ _ A6 A7 N7 c6 c7 l6 l7 w7 HN6.out.symm (alike_plain (hl6.trans hl7.symm)) (hO6.new hb7).erds hO7.erds (by rw [HN6.out, ← plain_len, hl6]; unfold maxLen; omega) (hold_short HOK.out (fun x hx => by rw [hl6] at hx; exact hx))
  clear h7 hO6 hO7
  go_wp2_with fail
  refine h8.mono ?_
  rintro e w8 ⟨rfl, hb8⟩
  clear h8
  go_wp2
  go_ret
  exact ⟨rfl, below_new hb07 hb8⟩
end Go.Proofs.Ytedcgfcmhaeldaa
end

section
namespace Go.Proofs.Ytedcgfcmhaeldaa
set_option linter.unusedVariables false
set_option linter.unusedSimpArgs false
open Go.ChangeShapes Go.WideShapes Go.ChangeAt Go.RowKit

theorem hold_len {b : B.Bk} (h : B.Ok b) : b.hold.length ≤ 768 := by
  have h1 := pick_lst h.srt (fun x hx => h.may _ (h.seen x hx)) (fun _ => true)
  have h2 : b.hold.filter (fun x => (fun _ => true) (B.dotOf x)) = b.hold := List.filter_eq_self.2 fun _ _ => rfl
  rw [h2] at h1
  rw [← h1]
  exact Nat.le_trans (fm_len _ _) (D.lst_len _)
theorem run_snoc (b : B.Bk) (l : List E.Ev) (e : E.Ev) : B.run b (l ++ [e]) = B.add (B.run b l) e := by unfold B.run; rw [List.foldl_append]; rfl
theorem plain_take {l : List EvV} {i : Nat} (h : i < l.length) : plain (l.take (i + 1)) = plain (l.take i) ++ [(l[i].F, l[i].M)] := by
  rw [List.take_succ_eq_append_getElem h, plain_app]; rfl
theorem plain_mem {l : List EvV} {i : Nat} (h : i < l.length) : (l[i].F, l[i].M) ∈ plain l := List.mem_map.2 ⟨l[i], List.getElem_mem h, rfl⟩
theorem bulk_max {l : List EvV} (h : bulk l ≤ 3000) {e : EvV} (he : e ∈ l) : e.M.length ≤ 3000 := by have := bulk_mem he; omega
theorem bulk_n {l : List EvV} (h : bulk l ≤ 3000) : l.length ≤ 3000 := by have := bulk_len l; omega
theorem len_max {n : Nat} (h : n ≤ 3000) : n ≤ maxLen := by unfold maxLen; omega
theorem news_has {a b : B.Bk} (ha : B.Ok a) : B.news b (D.has (D.cU a.saw) (D.cM a.saw)) = B.news b a.saw := by
  unfold B.news
  refine List.filter_congr fun x _ => ?_
  rw [D.cl_has]
  cases h : a.saw (B.dotOf x) with
  | false => simp
  | true => rw [ha.may _ h]; rfl
theorem newer_all {a b : B.Bk} (ha : B.Ok a) (hb : B.Ok b) : B.newer b (D.has (D.cU a.saw) (D.cM a.saw)) 1000 = B.news b a.saw := by
  unfold B.newer
  rw [news_has ha]
  refine List.take_of_length_le ?_
  have h1 : (B.news b a.saw).length ≤ b.hold.length := List.length_filter_le _ _
  have h2 := hold_len hb
  have : (1000 : Int).toNat = 1000 := rfl
  omega
theorem ERds.kpt {w w' : World} {S S2 : Nat → Prop} {A : Option Addr} {l : List EvV} {g : Nat} {m : Option Nat} {b : B.Bk} (h : ERds w S2 A l) (k : PB w S g m b) (hK : Kpt w w' g m) (hS : ∀ b, S2 b → b ≠ g) : ERds w' S2 A l := ⟨k.rds h.1 hK hS, fun e he => k.rds (h.2 e he) hK hS⟩
theorem run_take {b : B.Bk} {l : List EvV} {i : Nat} (h : i < l.length) {F : Nat → Int} {M : List D.Dot} {A : Option Addr} {c : Nat} (hx : ⟨F, M, A, c⟩ = l[i]) : B.add (B.run b (plain (l.take i))) (F, M) = B.run b (plain (l.take (i + 1))) := by
  rw [plain_take h, run_snoc, ← hx]
/-- A row of events that was handed out. -/
structure Out (w0 W : World) (g1 g2 : Nat) (A : Option Addr) (l : List EvV) (X : List E.Ev) : Prop where
  er : ERds W (fun b => b ≠ g1 ∧ b ≠ g2) A l
  pl : plain l = X
theorem Out.new {w0 W W' : World} {g1 g2 : Nat} {A : Option Addr} {l : List EvV} {X : List E.Ev} (h : Out w0 W g1 g2 A l X) (hb : Below W.heap.size W W') : Out w0 W' g1 g2 A l X := ⟨h.er.new hb, h.pl⟩
end Go.Proofs.Ytedcgfcmhaeldaa
end

