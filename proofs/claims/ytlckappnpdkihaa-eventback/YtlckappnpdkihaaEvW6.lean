/- Layer 7, the program's writer: events. | Layer 7, the program's: PutAll. -/
import Derived.Test.YtlckappnpdkihaaEvW4
import Derived.Test.YtlckappnpdkihaaEvRefAll
import Derived.Test.YtlckappnpdkihaaEvGreat

section
namespace Go.Proofs.Ytlckappnpdkihaa
set_option linter.unusedVariables false
set_option linter.unusedSimpArgs false
open Go.ChangeShapes Go.WideShapes Go.ChangeAt Go.RowKit

theorem nums_len2 (F : Nat → Int) (M : List D.Dot) : (E.nums F M).length ≤ 13 + 2 * M.length := by
  have h1 : (E.numM M).length = 2 * M.length := by
    induction M with
    | nil => rfl
    | cons d M ih =>
      have : E.numM (d :: M) = d.1 :: d.2 :: E.numM M := rfl
      rw [this]; simp; omega
  unfold E.nums E.numP
  split
  · simp; omega
  · split
    · simp [h1]; omega
    · simp [h1]; omega
theorem bulk_take (l : List EvV) (i : Nat) : bulk (l.take i) ≤ bulk l := by
  induction l generalizing i with
  | nil => simp [bulk]
  | cons x l ih =>
    have := bulk_len l
    cases i with
    | zero => simp [bulk]; omega
    | succ i => have := ih i; simp [bulk]; omega
theorem plain_takes (l : List EvV) (i : Nat) : (plain l).take i = plain (l.take i) := by simp [plain]
theorem bod_bulk : ∀ {l : List EvV}, (∀ e ∈ plain l, E.right e.1 e.2 = true) → ((E.bod (plain l)).length : Int) ≤ 78 * bulk l
  | [], _ => by simp [plain, E.bod, bulk]
  | x :: l, h => by
    have h1 := bod_bulk (l := l) (fun e he => h e (List.mem_cons_of_mem _ he))
    have h2 := V.encs_len _ (nums_in (h (x.F, x.M) (List.mem_cons_self ..)))
    have h3 := nums_len2 x.F x.M
    have e1 : E.bod (plain (x :: l)) = V.encs (E.nums x.F x.M) ++ E.bod (plain l) := rfl
    rw [e1]
    simp only [List.length_append, bulk, Int.natCast_add]
    have : 0 ≤ bulk l := by have := bulk_len l; omega
    simp only at h2
    omega

/-- What writing events comes to. -/
def WevsPost (B g : Nat) (l : List E.Ev) (w : World) (e : Ending) (w' : World) : Prop :=
  Wro B w w' ∧ ((E.putAE l = 0 ∧ e = .returned (.tuple #[]) ∧ Wtr w' B g (E.putAB l)) ∨ (E.putAE l ≠ 0 ∧ e = gave (E.putAE l)))
/-- How far it has come. -/
def WeSt (B g : Nat) (w0 : World) (l : List E.Ev) (n i : Nat) (w : World) : Prop :=
  ∃ L, Hid (L = V.enc (n : Int) ++ E.bod (l.take i) ∧ ∀ e ∈ l.take i, E.right e.1 e.2 = true) ∧ L.length ≤ 700000 ∧ Wtr w B g L ∧ Wro B w0 w

set_option maxRecDepth 100000 in
set_option maxHeartbeats 4000000 in
theorem wevents_any {B g : Nat} (A : Option Addr) (n c : Nat) (l : List EvV) {w : World} (hW : Wtr w B g []) (hn : l.length = n) (hr : ERds w (· < B) A l) (hl : n ≤ maxLen) (hk : bulk l ≤ 3000) :
    Calls Try.prog 40 #[.pointer (some ⟨g, 0, none⟩), .slice A n c] w (WevsPost B g (plain l) w) := by
  obtain ⟨w1, hw1⟩ : ∃ W, w.alloc (.cells #[.int .i64 (n : Int)] 3) = W := ⟨_, rfl⟩
  obtain ⟨gc, hgc⟩ : ∃ q, q = w.heap.size := ⟨_, rfl⟩
  have hb1 : Below w.heap.size w w1 := by rw [← hw1]; exact b_alloc _ _
  have hX1 : Blo w1 gc 3 #[.int .i64 (n : Int)] := by rw [← hw1, hgc]; exact Blo.made _ _ _
  have hW1 := hW.new hb1
  have hR1 : Wro B w w1 := (Wro.refl B w).new hb1 hW.B
  have HW := Lib.hid hw1
  have HG := Lib.hid hgc
  have HN := Lib.hid hn
  have HK := Lib.hid hk
  have z0 : w1.cell? ⟨gc, 0, none⟩ = some (.int .i64 (n : Int)) := by simpa using hX1.cell 0
  clear hw1 hgc hn hb1 hW hk
  by_cases h768 : 768 < n
  · have h1 : ¬ (n : Int) ≤ 768 := by omega
    have h2 : decide ((n : Int) ≤ 768) = false := decide_eq_false h1
    have HP := Lib.hid (putAE_long (l := plain l) (by rw [plain_len, HN.out]; exact h768))
    go_enter Try.func40, Try.ntmps40
    go_wp2_with fail
    rw [HW.out, ← HG.out]
    go_wp2_with fail
    refine (eneed_no _ _).mono ?_
    rintro e w2 ⟨rfl, rfl⟩
    go_wp2
    refine ⟨rfl, hR1, .inr ?_⟩
    rw [HP.out.1]
    exact ⟨by decide, rfl⟩
  have h1 : (n : Int) ≤ 768 := by omega
  have h2 : decide ((n : Int) ≤ 768) = true := decide_eq_true h1
  have h6 := V.enc_len6 (n := (n : Int)) (by omega)
  have hnum := wnumber_any hW1 z0 (by simp) (by omega) (by omega)
  simp only [List.nil_append] at hnum
  go_enter Try.func40, Try.ntmps40
  go_wp2_with fail
  rw [HW.out, ← HG.out]
  go_wp2_with fail
  refine (eneed_yes _ _).mono ?_
  rintro e w2 ⟨rfl, rfl⟩
  go_wp2_with fail
  refine hnum.mono ?_
  rintro e w3 ⟨rfl, hW3, hR3⟩
  have hR03 := hR1.trans hR3
  clear hnum z0 hX1 hW1 hR1 hR3
  go_wp2_with fail
  go_loopw [16] (fun iv wr => ∃ i : Nat, iv = .int .i64 i ∧ i ≤ n ∧ WeSt B g w (plain l) n i wr) (fun iv _ => n - (intOf iv).toNat)
  case atStart => exact ⟨0, rfl, by omega, _, Lib.hid ⟨by simp [E.bod], fun e he => by simp at he⟩, by omega, hW3, hR03⟩
  case round =>
    obtain ⟨i, rfl, hi, L, HS, hLl, hWr, hRr⟩ := hrel
    by_cases hlt : i < n
    · have hlt' : i < l.length := by rw [HN.out]; exact hlt
      obtain ⟨ad, rfl, _, hrx, c0, c1, c2, c3, c4, c5, c6, c7, c8, c9, c10, c11, c12, c13⟩ := (hr.below hRr.below (fun b hb _ => hb)).cells hlt'
      obtain ⟨x, hx⟩ : ∃ x, x = l[i] := ⟨_, rfl⟩
      rw [← hx] at hrx c0 c1 c2 c3 c4 c5 c6 c7 c8 c9 c10 c11 c12 c13
      have hxl : (x.M.length : Int) ≤ 3000 := by rw [hx]; exact Int.le_trans (bulk_mem (List.getElem_mem hlt')) HK.out
      have HX := Lib.hid hx
      have HXm : Hid ((x.F, x.M) ∈ plain l) := Lib.hid (by rw [hx]; exact List.mem_map.2 ⟨_, List.getElem_mem hlt', rfl⟩)
      obtain ⟨F, M, Ax, cx⟩ := x
      simp only at hrx c0 c1 c2 c3 c4 c5 c6 c7 c8 c9 c10 c11 c12 c13 hxl HXm
      obtain ⟨q, hq⟩ : ∃ q, M.length = q := ⟨_, rfl⟩
      rw [hq] at c13 hxl
      obtain ⟨w4, hw4⟩ : ∃ W, wr.alloc (.cells (ecs F Ax q cx) 28) = W := ⟨_, rfl⟩
      obtain ⟨g4, hg4⟩ : ∃ g, g = wr.heap.size := ⟨_, rfl⟩
      have hb4 : Below wr.heap.size wr w4 := by rw [← hw4]; exact b_alloc _ _
      have hX4 : Blo w4 g4 28 (ecs F Ax q cx) := by rw [← hw4, hg4]; exact Blo.made _ _ _
      have hR4 := hRr.new hb4 hWr.B
      have hev := wevent_any F Ax q cx M (hWr.new hb4) hq (hrx.new hb4) hLl (by unfold maxLen; omega)
      have HW4 := Lib.hid hw4
      have HG4 := Lib.hid hg4
      have HQ := Lib.hid hq
      clear hx hq hw4 hg4 hrx
      go_wp2_with fail
      rw [HW4.out, ← HG4.out]
      clear c0 c1 c2 c3 c4 c5 c6 c7 c8 c9 c10 c11 c12 c13
      obtain ⟨c0, c1, c2, c3, c4, c5, c6, c7, c8, c9, c10, c11, c12, c13⟩ := set14 hX4
      go_wp2_with fail
      refine hev.mono ?_
      rintro e w5 ⟨hR5, ⟨hrt, rfl, hW5⟩ | ⟨hrt, rfl⟩⟩
      · have hR05 := hR4.trans hR5
        have HS2 : Hid (L ++ V.encs (E.nums F M) = V.enc (n : Int) ++ E.bod ((plain l).take (i + 1)) ∧ ∀ e ∈ (plain l).take (i + 1), E.right e.1 e.2 = true) := Lib.hid (by
          obtain ⟨s2, s3⟩ := HS.out
          refine ⟨?_, ?_⟩
          · rw [plain_take hlt', ← HX.out, bod_snoc, s2, List.append_assoc]
          · rw [plain_take hlt', ← HX.out]
            intro e he
            rcases List.mem_append.1 he with h | h
            · exact s3 e h
            · simp at h; subst h; exact hrt)
        have hL2 : (L ++ V.encs (E.nums F M)).length ≤ 700000 := by
          have h3 := bod_bulk (l := l.take (i + 1)) (by rw [← plain_takes]; exact HS2.out.2)
          have h4 := bulk_take l (i + 1)
          have h5 := HK.out
          rw [HS2.out.1, plain_takes, List.length_append]
          omega
        obtain ⟨L2, hL2'⟩ : ∃ X, X = L ++ V.encs (E.nums F M) := ⟨_, rfl⟩
        rw [← hL2'] at HS2 hL2 hW5
        clear hrt hL2' hev c0 c1 c2 c3 c4 c5 c6 c7 c8 c9 c10 c11 c12 c13
        go_wp2
        go_roundw
        case rel => exact ⟨i + 1, by go_num, by omega, L2, HS2, hL2, hW5, hR05⟩
        case measure => simp [intOf]; omega
      · have hR05 := hR4.trans hR5
        have HP := Lib.hid (putAE_bad (l := plain l) (by rw [plain_len, HN.out]; omega) HXm.out hrt)
        clear hrt hev c0 c1 c2 c3 c4 c5 c6 c7 c8 c9 c10 c11 c12 c13
        go_wp2
        refine ⟨rfl, hR05, .inr ?_⟩
        rw [HP.out.1]
        exact ⟨by decide, rfl⟩
    · have HP : Hid (E.putAE (plain l) = 0 ∧ E.putAB (plain l) = L) := Lib.hid (by
        obtain ⟨s2, s3⟩ := HS.out
        have h2 : i = (plain l).length := by rw [plain_len, HN.out]; omega
        rw [h2, List.take_length] at s2 s3
        obtain ⟨p1, p2⟩ := putAE_good (l := plain l) (by rw [plain_len, HN.out]; omega) s3
        refine ⟨p1, ?_⟩
        rw [p2, s2, plain_len, HN.out])
      go_wp2
      go_end0
      refine ⟨hRr, .inl ⟨HP.out.1, rfl, ?_⟩⟩
      rw [HP.out.2]
      exact hWr
end Go.Proofs.Ytlckappnpdkihaa
end

section
namespace Go.Proofs.Ytlckappnpdkihaa
set_option linter.unusedVariables false
set_option linter.unusedSimpArgs false
open Go.ChangeShapes Go.WideShapes Go.ChangeAt Go.RowKit

set_option maxRecDepth 100000 in
set_option maxHeartbeats 4000000 in
theorem evputall_any (S : Nat → Prop) (A : Option Addr) (n c : Nat) (l : List EvV) (w : World) (hn : l.length = n) (hr : ERds w S A l) (hl : n ≤ maxLen) (hk : bulk l ≤ 3000) :
    Calls Try.prog 18 #[.slice A n c] w (BytesPost7 (E.putAB (plain l)) (E.putAE (plain l)) w) := by
  have hmf : ∀ (fn : Fn) (first cap : Array Value) (w : World), (Instr.makeFunc fn first cap).run Try.prog w = .ok (.func fn first cap) w := fun _ _ _ _ => rfl
  have HN := Lib.hid hn
  obtain ⟨w1, hw1⟩ : ∃ W, w.alloc (.cells #[.slice A n c] 31) = W := ⟨_, rfl⟩
  obtain ⟨w2, hw2⟩ : ∃ W, w1.alloc (.cells #[.slice none 0 0] 65) = W := ⟨_, rfl⟩
  obtain ⟨w3, hw3⟩ : ∃ W, w2.alloc (.cells #[.pointer (some ⟨w.heap.size + 1, 0, none⟩)] 63) = W := ⟨_, rfl⟩
  obtain ⟨w4, hw4⟩ : ∃ W, w3.alloc (.cells #[.int .i64 0] 37) = W := ⟨_, rfl⟩
  have s1 : w1.heap.size = w.heap.size + 1 := by rw [← hw1]; simp
  have s2 : w2.heap.size = w.heap.size + 2 := by rw [← hw2]; simp; omega
  have s3 : w3.heap.size = w.heap.size + 3 := by rw [← hw3]; simp; omega
  have b1 : Below w.heap.size w w1 := by rw [← hw1]; exact b_alloc _ _
  have b2 : Below w1.heap.size w1 w2 := by rw [← hw2]; exact b_alloc _ _
  have b3 : Below w2.heap.size w2 w3 := by rw [← hw3]; exact b_alloc _ _
  have b4 : Below w3.heap.size w3 w4 := by rw [← hw4]; exact b_alloc _ _
  have b04 : Below w.heap.size w w4 := below_new (below_new (below_new b1 b2) b3) b4
  have X1 : Blo w1 w.heap.size 31 #[.slice A n c] := by rw [← hw1]; exact Blo.made _ _ _
  have T2 : Wtr w2 w.heap.size (w.heap.size + 1) [] := by
    rw [← hw2, ← s1]; exact Wtr.made w1 (by omega)
  have P3 : Blo w3 (w.heap.size + 2) 63 #[.pointer (some ⟨w.heap.size + 1, 0, none⟩)] := by rw [← hw3, ← s2]; exact Blo.made _ _ _
  have X4 := ((X1.new b2).new b3).new b4
  have T4 := (T2.new b3).new b4
  have P4 := P3.new b4
  have Q4 : Blo w4 w3.heap.size 37 #[.int .i64 0] := by rw [← hw4]; exact Blo.made _ _ _
  have r4 : ERds w4 (· < w.heap.size) A l := (hr.old.mono fun b hb => hb.2).new b04
  have hdo : Calls Try.prog 39 #[.pointer (some ⟨w.heap.size + 2, 0, none⟩), .pointer (some ⟨w.heap.size, 0, none⟩)] w4
      (DoPost (fun W => E.putAE (plain l) = 0 ∧ Wtr W w.heap.size (w.heap.size + 1) (E.putAB (plain l)) ∧ Wro w.heap.size w4 W) (fun y W => E.putAE (plain l) ≠ 0 ∧ y = E.putAE (plain l) ∧ Wro w.heap.size w4 W)) := by
    have z0 : w4.cell? ⟨w.heap.size, 0, none⟩ = some (.slice A n c) := by simpa using X4.cell 0
    have p0 : w4.cell? ⟨w.heap.size + 2, 0, none⟩ = some (.pointer (some ⟨w.heap.size + 1, 0, none⟩)) := by simpa using P4.cell 0
    have hev := wevents_any A n c l T4 hn r4 hl hk
    clear hn hw1 hw2 hw3 hw4 s1 s2 s3 b1 b2 b3 b4 b04 hk
    go_enter Try.func39, Try.ntmps39
    go_wp2_with fail
    refine hev.mono ?_
    rintro e w5 ⟨hR, ⟨hr1, rfl, hT⟩ | ⟨hr1, rfl⟩⟩
    · have HR := Lib.hid hr1
      clear hr1
      go_wp2
      go_end0
      exact .inl ⟨rfl, HR.out, hT, hR⟩
    · have HR := Lib.hid hr1
      clear hr1
      go_wp2
      exact ⟨rfl, .inr ⟨_, rfl, HR.out, rfl, hR⟩⟩
  rw [← hw4] at hdo
  have hface := eface_any 39 _ _ _ (.inr (.inl rfl)) hdo (fun W hW => hW.2.2.keep _ _ _ (hw4 ▸ Q4) (by decide) (by decide)) (fun y W hW => hW.2.2.keep _ _ _ (hw4 ▸ Q4) (by decide) (by decide))
  rw [hw4] at hface
  have HW1 := Lib.hid hw1
  have HW2 := Lib.hid hw2
  have HW3 := Lib.hid hw3
  have S1 := Lib.hid s1
  have S2 := Lib.hid s2
  have S3 := Lib.hid s3
  clear hw1 hw2 hw3 hw4 s1 s2 s3 hdo hn hk
  go_enter Try.func18, Try.ntmps18
  go_wp2_with fail
  rw [HW1.out, HW2.out, HW3.out]
  refine hface.mono ?_
  have hs4 := b04.size
  have hq := S3.out
  rintro e w5 (⟨W, ⟨hr1, hT, hR⟩, rfl, hg⟩ | ⟨y, W, ⟨hr1, rfl, hR⟩, rfl, hg⟩)
  · have hQ5 := hR.keep _ _ _ Q4 (by decide) (by decide)
    have hT5 := hT.beside hQ5 (by decide) (by decide) hg
    have hP5 := (hR.keep _ _ _ P4 (by decide) (by decide)).grown hg (fun e => by injection e with e; omega)
    have p5 : w5.cell? ⟨w.heap.size + 2, 0, none⟩ = some (.pointer (some ⟨w.heap.size + 1, 0, none⟩)) := by simpa using hP5.cell 0
    have hsW := hR.below.size
    have hb5 : Below w.heap.size w w5 := (b04.trans hR.below).trans (below_gb' hg (by omega) (by omega))
    obtain ⟨A5, N5, c5, k5, hN5, ho5⟩ := hT5.out
    have HN5 := Lib.hid hN5
    have HB := Lib.hid hr1
    clear hr1 hN5 hface hq hsW hs4 hT hT5 hR hQ5 hP5 Q4 P4 X4 T4 X1 T2 P3
    go_wp2
    go_ret2
    rw [HB.out]
    exact ⟨A5, N5, c5, rfl, HN5.out, ho5, hb5⟩
  · have hsW := hR.below.size
    have hb5 : Below w.heap.size w w5 := (b04.trans hR.below).trans (below_gb' hg (by omega) (by omega))
    have HB : Hid (E.putAB (plain l) = []) := Lib.hid (by unfold E.putAB; rw [if_neg hr1])
    obtain ⟨x, hx⟩ : ∃ x, x = E.putAE (plain l) := ⟨_, rfl⟩
    rw [← hx] at hr1 ⊢
    have hx' : (x != 0) = true := by simpa using hr1
    have HX := Lib.hid hx
    clear hr1 hx hface hq hsW hs4 hR Q4 P4 X4 T4 X1 T2 P3
    go_wp2
    go_ret2
    rw [HB.out, ← HX.out]
    exact ⟨none, 0, 0, rfl, rfl, World.ownsRow_nil _ _ _ _, hb5⟩
end Go.Proofs.Ytlckappnpdkihaa
end

