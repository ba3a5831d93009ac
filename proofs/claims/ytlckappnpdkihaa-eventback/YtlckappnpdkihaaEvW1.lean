/- Layer 7, the program's writer: need, number, throughDot, throughPolicy. -/
import Derived.Test.YtlckappnpdkihaaEvMem
import Derived.Test.YtlckappnpdkihaaVint
import Derived.Test.YtlckappnpdkihaaVintFace
namespace Go.Proofs.Ytlckappnpdkihaa
set_option linter.unusedVariables false
set_option linter.unusedSimpArgs false
open Go.ChangeShapes Go.WideShapes Go.ChangeAt Go.RowKit

set_option maxHeartbeats 400000 in
theorem eneed_yes (y : Int) (w : World) : Calls Try.prog 58 #[.bool true, .int .i64 y] w fun e w' => e = .returned (.tuple #[]) ∧ w = w' := by
  go_enter Try.func58, Try.ntmps58
  go_wp2
  go_end0
  exact ⟨rfl, rfl⟩
set_option maxHeartbeats 400000 in
theorem eneed_no (y : Int) (w : World) : Calls Try.prog 58 #[.bool false, .int .i64 y] w fun e w' => e = gave y ∧ w = w' := by
  go_enter Try.func58, Try.ntmps58
  go_wp2
  exact ⟨rfl, rfl, rfl⟩

/-- Nothing below B, and no block but writers and rows of bytes, has turned. -/
structure Wro (B : Nat) (w w' : World) : Prop where
  below : Below B w w'
  keep : ∀ g t cs, Blo w g t cs → t ≠ 65 → t ≠ 5 → Blo w' g t cs
theorem Wro.refl (B : Nat) (w : World) : Wro B w w := ⟨Below.refl _ _, fun _ _ _ h _ _ => h⟩
theorem Wro.trans {B : Nat} {a b c : World} (h : Wro B a b) (k : Wro B b c) : Wro B a c := ⟨h.below.trans k.below, fun g t cs hb h1 h2 => k.keep g t cs (h.keep g t cs hb h1 h2) h1 h2⟩
theorem Wro.new {B : Nat} {a b c : World} (h : Wro B a b) (k : Below b.heap.size b c) (hB : B ≤ b.heap.size) : Wro B a c := ⟨h.below.trans (k.mono hB), fun g t cs hb h1 h2 => (h.keep g t cs hb h1 h2).new k⟩
/-- A place that a writer leaves. -/
def Far (B : Nat) (w : World) (b : Nat) : Prop := b < B ∨ ∃ t cs, Blo w b t cs ∧ t ≠ 65 ∧ t ≠ 5
theorem Far.cell {B : Nat} {w w' : World} {p : Addr} {v : Value} (h : Far B w p.block) (k : Wro B w w') (hc : w.cell? p = some v) : w'.cell? p = some v := by
  have hb : w'.heap[p.block]? = w.heap[p.block]? := by
    rcases h with h | ⟨t, cs, h1, h2, h3⟩
    · exact k.below.block _ h
    · have := k.keep _ _ _ h1 h2 h3
      exact this.trans h1.symm
  exact (World.cell?_of_block (w := w) hb).trans hc
theorem Far.up {B : Nat} {w w' : World} {b : Nat} (h : Far B w b) (k : Wro B w w') : Far B w' b := by
  rcases h with h | ⟨t, cs, h1, h2, h3⟩
  · exact .inl h
  · exact .inr ⟨t, cs, k.keep _ _ _ h1 h2 h3, h2, h3⟩

/-- A writer at block g, with these bytes in a row of its own from B on. -/
def Wtr (w : World) (B g : Nat) (l : List Int) : Prop :=
  B ≤ g ∧ B ≤ w.heap.size ∧ ∃ A n c, Blo w g 65 #[.slice A n c] ∧ n = l.length ∧ w.ownsRow B 5 1 (.slice A n c) n (u8s l)
theorem Wtr.new {w w' : World} {B g : Nat} {l : List Int} (h : Wtr w B g l) (hb : Below w.heap.size w w') : Wtr w' B g l := by
  obtain ⟨h1, h2, A, n, c, h3, h4, h5⟩ := h
  exact ⟨h1, Nat.le_trans h2 hb.size, A, n, c, h3.new hb, h4, own_keep h5 fun k hk hl => hb.block k hl⟩
theorem Wtr.B {w : World} {B g : Nat} {l : List Int} (h : Wtr w B g l) : B ≤ w.heap.size := h.2.1

def WroPost (B g : Nat) (l : List Int) (w : World) (e : Ending) (w' : World) : Prop := e = .returned (.tuple #[]) ∧ Wtr w' B g l ∧ Wro B w w'

set_option maxRecDepth 100000 in
set_option maxHeartbeats 2000000 in
theorem wnumber_any {B g : Nat} {l : List Int} {p : Addr} {x : Int} {w : World} (hW : Wtr w B g l) (hp : w.cell? p = some (.int .i64 x)) (hl : l.length ≤ 1000000) (h0 : 0 ≤ x) (h1 : x ≤ 1099511627776) :
    Calls Try.prog 59 #[.pointer (some ⟨g, 0, none⟩), .pointer (some p)] w (WroPost B g (l ++ V.enc x) w) := by
  obtain ⟨i0, hi, hz0, hz1, hz2⟩ := info_parts Try.rowU8
  have h6 := V.enc_len6 h1
  have hput : Calls Try.prog 69 #[.slice none 0 0, .int .i64 x] w fun e w' => ∃ A N c, e = .returned (.tuple #[.slice A N c, .int .i64 0]) ∧ N = (V.enc x).length ∧ w'.ownsRow w.heap.size 5 1 (.slice A N c) N (u8s (V.enc x)) ∧ Below w.heap.size w w' :=
    (put_yes (fun _ => True) none 0 [] x w Rds.nil (by simp) h0 h1).mono fun e w' ⟨A, c, he, ho, hb⟩ => ⟨A, _, c, he, rfl, ho, hb⟩
  obtain ⟨m, hm⟩ : ∃ m, m = V.enc x := ⟨_, rfl⟩
  rw [← hm] at h6 hput ⊢
  clear hm
  go_enter Try.func59, Try.ntmps59
  go_wp2_with fail
  refine hput.mono ?_
  rintro e w1 ⟨A1, N1, c1, rfl, hN1, ho1, hb1⟩
  have HN1 := Lib.hid hN1
  have hN6 : N1 ≤ 6 := by omega
  have hW1 := hW.new hb1
  obtain ⟨hBg, hBs, A, n, c, hB1, hn, hown⟩ := hW1
  have HN := Lib.hid hn
  have hnl : n ≤ 1000000 := by omega
  have hr1 := own_rds ho1
  have z0 : w1.cell? ⟨g, 0, none⟩ = some (.slice A n c) := by simpa using hB1.cell 0
  clear hput hN1 hn hp
  go_wp2_with fail
  refine (eneed_yes _ _).mono ?_
  rintro e w2 ⟨rfl, rfl⟩
  go_wp2_with (at_builtin; refine wpList_app _ rfl _ _ 36 rfl B 5 i0 (.int .u8 0) 1 Try.underlying36 hi hz0 hz1 hz2 rfl _ _ _ rfl hown _ A1 N1 c1 (u8s m) rfl (by rw [HN1.out]; simp) hr1 (one_ints _ _) (by unfold maxLen; omega) (by omega) hBs ?_)
  intro v3 w3 hown3 hg3 hv3
  obtain ⟨A3, c3, rfl, _, _⟩ := own_form hown3
  have hgne : (Value.slice A n c).ownBlock ≠ some g := own_blo hown hB1 (by decide)
  have hB3 := hB1.grown hg3 (Ne.symm hgne)
  have z3 : w3.cell? ⟨g, 0, none⟩ = some (.slice A n c) := by simpa using hB3.cell 0
  have f3 := hB3.frozen 0
  have hgne3 : (Value.slice A3 (n + N1) c3).ownBlock ≠ some g := own_blo hown3 hB3 (by decide)
  have hB4 := hB3.put 0 (.slice A3 (n + N1) c3)
  have hg4 : w3.grownBy (w3.setCell ⟨g, 0, none⟩ (.slice A3 (n + N1) c3)) (some g) := gb_set (World.grownBy.refl _ _) (.inl rfl) _
  have hown4 := own_keep hown3 (w' := w3.setCell ⟨g, 0, none⟩ (.slice A3 (n + N1) c3)) (fun k hk hl => hg4.block k hl (fun e => hgne3 (hk.trans e)))
  have hsz := hg3.size
  have hbel : Below B w (w3.setCell ⟨g, 0, none⟩ (.slice A3 (n + N1) c3)) := by
    have h01 : Below B w w1 := hb1.mono hW.B
    have h13 : Below B w1 w3 := ⟨hg3.os, hg3.tape, hg3.output, hg3.size, fun i hi => hg3.block i (by omega) (fun e => by have := (hown.lt i e.symm).1; omega)⟩
    exact (h01.trans h13).trans (below_gb' hg4 (by omega) hBg)
  have hkeep : ∀ k t cs, Blo w k t cs → t ≠ 65 → t ≠ 5 → Blo (w3.setCell ⟨g, 0, none⟩ (.slice A3 (n + N1) c3)) k t cs := fun k t cs hk h1 h2 => by
    have a1 := hk.new hb1
    have a2 : Blo w3 k t cs := a1.grown hg3 (fun e => own_blo hown a1 (Ne.symm h2) e.symm)
    exact a2.grown hg4 (fun e => by injection e with e; exact hB3.typeNe a2 (Ne.symm h1) e.symm)
  clear z0 hg3 hv3
  go_wp2
  go_end0
  refine ⟨rfl, ⟨hBg, by simpa [World.setCell] using Nat.le_trans hBs hsz, A3, n + N1, c3, by simpa using hB4, by rw [HN.out, HN1.out]; simp, by simpa using hown4⟩, ⟨hbel, hkeep⟩⟩
end Go.Proofs.Ytlckappnpdkihaa
