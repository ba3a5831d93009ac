/- Layer 7, the program's: Put. -/
import Derived.Test.YtlckappnpdkihaaEvW3
import Derived.Test.YtlckappnpdkihaaEvFace
namespace Go.Proofs.Ytlckappnpdkihaa
set_option linter.unusedVariables false
set_option linter.unusedSimpArgs false
open Go.ChangeShapes Go.WideShapes Go.ChangeAt Go.RowKit

theorem Wtr.beside {w w' : World} {B g q : Nat} {l : List Int} {t : TypeId} {cs : Array Value} (h : Wtr w B g l) (hq : Blo w q t cs) (h1 : t ≠ 65) (h2 : t ≠ 5) (hg : w.grownBy w' (some q)) : Wtr w' B g l := by
  obtain ⟨a1, a2, A, n, c, a3, a4, a5⟩ := h
  refine ⟨a1, Nat.le_trans a2 hg.size, A, n, c, a3.grown hg (fun e => by injection e with e; exact a3.typeNe hq (Ne.symm h1) e), a4, own_keep a5 fun k hk hl => hg.block k hl (fun e => own_blo a5 hq (Ne.symm h2) (hk.trans e))⟩
theorem Wtr.out {w : World} {B g : Nat} {l : List Int} (h : Wtr w B g l) : ∃ A n c, w.cell? ⟨g, 0, none⟩ = some (.slice A n c) ∧ n = l.length ∧ w.ownsRow B 5 1 (.slice A n c) n (u8s l) := by
  obtain ⟨_, _, A, n, c, a3, a4, a5⟩ := h
  exact ⟨A, n, c, by simpa using a3.cell 0, a4, a5⟩
theorem Wtr.made (w : World) {B : Nat} (hB : B ≤ w.heap.size) : Wtr (w.alloc (.cells #[.slice none 0 0] 65)) B w.heap.size [] :=
  ⟨hB, by simp; omega, none, 0, 0, Blo.made _ _ _, rfl, World.ownsRow_nil _ _ _ _⟩

def WQ (B g q : Nat) (l : List Int) (W4 W : World) : Prop := Wtr W B g l ∧ Wro B W4 W

set_option maxRecDepth 100000 in
set_option maxHeartbeats 4000000 in
theorem evput_any (S : Nat → Prop) (F : Nat → Int) (A : Option Addr) (n c : Nat) (M : List D.Dot) (w : World) (hn : M.length = n) (hr : Rds w S A (dvs M)) (hl : n ≤ maxLen) :
    Calls Try.prog 21 #[ev F A n c] w (BytesPost7 (E.putB F M) (E.putE F M) w) := by
  have hmf : ∀ (fn : Fn) (first cap : Array Value) (w : World), (Instr.makeFunc fn first cap).run Try.prog w = .ok (.func fn first cap) w := fun _ _ _ _ => rfl
  have HN := Lib.hid hn
  obtain ⟨w1, hw1⟩ : ∃ W, w.alloc (.cells (ecs F A n c) 28) = W := ⟨_, rfl⟩
  obtain ⟨w2, hw2⟩ : ∃ W, w1.alloc (.cells #[.slice none 0 0] 65) = W := ⟨_, rfl⟩
  obtain ⟨w3, hw3⟩ : ∃ W, w2.alloc (.cells #[.pointer (some ⟨w.heap.size + 1, 0, none⟩)] 63) = W := ⟨_, rfl⟩
  obtain ⟨w4, hw4⟩ : ∃ W, w3.alloc (.cells #[.int .i64 0] 37) = W := ⟨_, rfl⟩
  have s1 : w1.heap.size = w.heap.size + 1 := by rw [← hw1]; simp
  have s2 : w2.heap.size = w.heap.size + 2 := by rw [← hw2]; simp; omega
  have s3 : w3.heap.size = w.heap.size + 3 := by rw [← hw3]; simp; omega
  have b1 : Below w.heap.size w w1 := by rw [← hw1]; exact b_alloc _ _
  have b2 : Below w1.heap.size w1 w2 := by rw [← hw2]; exact b_alloc _ _
  have b3 : Below w2.heap.size w2 w3 := by rw [← hw3]; exact b_alloc _ _
  have b4 : Below w3.heap.size w3 w4 := by rw [← hw4]; exact b_alloc _ _
  have b04 : Below w.heap.size w w4 := below_new (below_new (below_new b1 b2) b3) b4
  have X1 : Blo w1 w.heap.size 28 (ecs F A n c) := by rw [← hw1]; exact Blo.made _ _ _
  have T2 : Wtr w2 w.heap.size (w.heap.size + 1) [] := by
    rw [← hw2, ← s1]; exact Wtr.made w1 (by omega)
  have P3 : Blo w3 (w.heap.size + 2) 63 #[.pointer (some ⟨w.heap.size + 1, 0, none⟩)] := by rw [← hw3, ← s2]; exact Blo.made _ _ _
  have X4 := ((X1.new b2).new b3).new b4
  have T4 := (T2.new b3).new b4
  have P4 := P3.new b4
  have Q4 : Blo w4 w3.heap.size 37 #[.int .i64 0] := by rw [← hw4]; exact Blo.made _ _ _
  have r4 : Rds w4 (· < w.heap.size) A (dvs M) := (hr.old.mono fun b hb => hb.2).new b04
  have hdo : Calls Try.prog 42 #[.pointer (some ⟨w.heap.size + 2, 0, none⟩), .pointer (some ⟨w.heap.size, 0, none⟩)] w4
      (DoPost (fun W => E.right F M = true ∧ Wtr W w.heap.size (w.heap.size + 1) (V.encs (E.nums F M)) ∧ Wro w.heap.size w4 W) (fun y W => E.right F M = false ∧ y = 2 ∧ Wro w.heap.size w4 W)) := by
    obtain ⟨z0, z1, z2, z3, z4, z5, z6, z7, z8, z9, z10, z11, z12, z13⟩ := set14 X4
    have p0 : w4.cell? ⟨w.heap.size + 2, 0, none⟩ = some (.pointer (some ⟨w.heap.size + 1, 0, none⟩)) := by simpa using P4.cell 0
    have hev := wevent_any F A n c M T4 hn r4 (by simp) hl
    clear hn hw1 hw2 hw3 hw4 s1 s2 s3 b1 b2 b3 b4 b04
    go_enter Try.func42, Try.ntmps42
    go_wp2_with fail
    refine hev.mono ?_
    rintro e w5 ⟨hR, ⟨hr1, rfl, hT⟩ | ⟨hr1, rfl⟩⟩
    · have HR := Lib.hid hr1
      clear hr1
      go_wp2
      go_end0
      exact .inl ⟨rfl, HR.out, by simpa using hT, hR⟩
    · have HR := Lib.hid hr1
      clear hr1
      go_wp2
      exact ⟨rfl, .inr ⟨2, rfl, HR.out, rfl, hR⟩⟩
  rw [← hw4] at hdo
  have hface := eface_any 42 _ _ _ (.inl rfl) hdo (fun W hW => hW.2.2.keep _ _ _ (hw4 ▸ Q4) (by decide) (by decide)) (fun y W hW => hW.2.2.keep _ _ _ (hw4 ▸ Q4) (by decide) (by decide))
  rw [hw4] at hface
  have HW1 := Lib.hid hw1
  have HW2 := Lib.hid hw2
  have HW3 := Lib.hid hw3
  have S1 := Lib.hid s1
  have S2 := Lib.hid s2
  have S3 := Lib.hid s3
  clear hw1 hw2 hw3 hw4 s1 s2 s3 hdo hn
  go_enter Try.func21, Try.ntmps21
  go_wp2_with fail
  rw [HW1.out, HW2.out, HW3.out]
  refine hface.mono ?_
  have hs4 := b04.size
  have hq := S3.out
  rintro e w5 (⟨W, ⟨hr1, hT, hR⟩, rfl, hg⟩ | ⟨y, W, ⟨hr1, rfl, hR⟩, rfl, hg⟩)
  · have hQ5 := hR.keep _ _ _ Q4 (by decide) (by decide)
    have hT5 := hT.beside hQ5 (by decide) (by decide) hg
    have hP5 := (hR.keep _ _ _ P4 (by decide) (by decide)).grown hg (fun e => by injection e with e; omega)
    have p5 : w5.cell? ⟨w.heap.size + 2, 0, none⟩ = some (.pointer (some ⟨w.heap.size + 1, 0, none⟩)) := by simpa using hP5.cell 0
    have hsW := hR.below.size
    have hb5 : Below w.heap.size w w5 := (b04.trans hR.below).trans (below_gb' hg (by omega) (by omega))
    obtain ⟨A5, N5, c5, k5, hN5, ho5⟩ := hT5.out
    have HN5 := Lib.hid hN5
    have HB : Hid (E.putB F M = V.encs (E.nums F M) ∧ E.putE F M = 0) := Lib.hid (by unfold E.putB E.putE; rw [hr1]; exact ⟨rfl, rfl⟩)
    clear hr1 hN5 hface hq hsW hs4 hT hT5 hR hQ5 hP5 Q4 P4 X4 T4 X1 T2 P3
    go_wp2
    go_ret2
    rw [HB.out.1, HB.out.2]
    exact ⟨A5, N5, c5, rfl, HN5.out, ho5, hb5⟩
  · have hsW := hR.below.size
    have hb5 : Below w.heap.size w w5 := (b04.trans hR.below).trans (below_gb' hg (by omega) (by omega))
    have HB : Hid (E.putB F M = [] ∧ E.putE F M = 2) := Lib.hid (by unfold E.putB E.putE; rw [hr1]; exact ⟨rfl, rfl⟩)
    clear hr1 hface hq hsW hs4 hR Q4 P4 X4 T4 X1 T2 P3
    go_wp2
    go_ret2
    rw [HB.out.1, HB.out.2]
    exact ⟨none, 0, 0, rfl, rfl, World.ownsRow_nil _ _ _ _, hb5⟩
end Go.Proofs.Ytlckappnpdkihaa
