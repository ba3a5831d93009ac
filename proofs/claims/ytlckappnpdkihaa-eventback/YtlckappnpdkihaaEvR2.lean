/- Layer 7, the program's reader: through a dot, a policy. -/
import Derived.Test.YtlckappnpdkihaaEvR1
import Derived.Test.YtlckappnpdkihaaEvMem
namespace Go.Proofs.Ytlckappnpdkihaa
set_option linter.unusedVariables false
set_option linter.unusedSimpArgs false
open Go.ChangeShapes Go.WideShapes Go.ChangeAt Go.RowKit

/-- Nothing but the blocks g and b, and what is new, has turned. -/
structure Two (g b : Nat) (w w' : World) : Prop where
  os : w'.os = w.os
  tape : w'.tape = w.tape
  output : w'.output = w.output
  size : w.heap.size ≤ w'.heap.size
  block : ∀ i, i < w.heap.size → i ≠ g → i ≠ b → w'.heap[i]? = w.heap[i]?
theorem Two.refl (g b : Nat) (w : World) : Two g b w w := ⟨rfl, rfl, rfl, Nat.le_refl _, fun _ _ _ _ => rfl⟩
theorem Two.trans {g b : Nat} {a c d : World} (h : Two g b a c) (k : Two g b c d) : Two g b a d :=
  ⟨k.os.trans h.os, k.tape.trans h.tape, k.output.trans h.output, Nat.le_trans h.size k.size, fun i hi h1 h2 => (k.block i (Nat.lt_of_lt_of_le hi h.size) h1 h2).trans (h.block i hi h1 h2)⟩
theorem Two.gb {g b : Nat} {a c d : World} (h : a.grownBy c (some g)) (k : Two g b c d) (hb : a.heap.size ≤ b) : a.grownBy d (some g) :=
  ⟨k.os.trans h.os, k.tape.trans h.tape, k.output.trans h.output, Nat.le_trans h.size k.size, fun i hi h1 => (k.block i (Nat.lt_of_lt_of_le hi h.size) (fun e => h1 (by rw [e])) (by omega)).trans (h.block i hi h1)⟩
theorem Two.of_g {g : Nat} (b : Nat) {w w' : World} (h : w.grownBy w' (some g)) : Two g b w w' := ⟨h.os, h.tape, h.output, h.size, fun i hi h1 _ => h.block i hi (fun e => h1 (by injection e))⟩
theorem Two.of_b (g : Nat) {b : Nat} {w w' : World} (h : w.grownBy w' (some b)) : Two g b w w' := ⟨h.os, h.tape, h.output, h.size, fun i hi _ h2 => h.block i hi (fun e => h2 (by injection e))⟩
theorem Two.of_new (g b : Nat) {w w' : World} (h : Below w.heap.size w w') : Two g b w w' := ⟨h.os, h.tape, h.output, h.size, fun i hi _ _ => h.block i hi⟩
/-- A block that is new is none of the older ones. -/
theorem Two.other {g b b' : Nat} {a c d : World} (h : Two g b a c) (k : Two g b' c d) (hb : a.heap.size ≤ b') : Two g b a d :=
  ⟨k.os.trans h.os, k.tape.trans h.tape, k.output.trans h.output, Nat.le_trans h.size k.size, fun i hi h1 h2 => (k.block i (Nat.lt_of_lt_of_le hi h.size) h1 (by omega)).trans (h.block i hi h1 h2)⟩
theorem Two.blo {g b q : Nat} {w w' : World} {t : TypeId} {cs : Array Value} (h : Two g b w w') (hq : Blo w q t cs) (h1 : q ≠ g) (h2 : q ≠ b) : Blo w' q t cs := hq.keep (h.block q hq.lt h1 h2)

/-- The reader at block gr, over vint's at g. -/
structure Rde (w : World) (g h gr : Nat) (st : D.St) : Prop where
  rd : Rdr w g h st.1 st.2
  me : Blo w gr 96 #[.pointer (some ⟨g, 0, none⟩)]
theorem Rde.ne {w : World} {g h gr : Nat} {st : D.St} (hr : Rde w g h gr st) : g ≠ gr := by obtain ⟨⟨_, _, _, _, A, c, hb, _⟩, hm⟩ := hr; exact hb.typeNe hm (by decide)
theorem Rde.new {w w' : World} {g h gr : Nat} {st : D.St} (hr : Rde w g h gr st) (hb : Below w.heap.size w w') : Rde w' g h gr st := ⟨hr.rd.new hb, hr.me.new hb⟩
theorem Rde.grown {w w' : World} {g h gr : Nat} {st : D.St} {b : Nat} (hr : Rde w g h gr st) (hb : w.grownBy w' (some b)) (h1 : b ≠ g) (h2 : b ≠ h) (h3 : b ≠ gr) : Rde w' g h gr st :=
  ⟨hr.rd.grown hb (fun e => by injection e with e; exact h1 e.symm) (fun e => by injection e with e; exact h2 e.symm), hr.me.grown hb (fun e => by injection e with e; exact h3 e.symm)⟩

/-- What reading into block b comes to: how the reader then stands, and what is there; or it gives up. -/
def Rpost (g h gr b : Nat) (s : D.St) (Q : World → Prop) (w : World) (e : Ending) (w' : World) : Prop :=
  Two g b w w' ∧ ((s.2 = 0 ∧ e = .returned (.tuple #[]) ∧ Rde w' g h gr s ∧ Q w') ∨ (s.2 ≠ 0 ∧ e = gave s.2))

theorem rnumb_any {g h gr b k : Nat} {t : TypeId} {cs : Array Value} {st : D.St} {w : World} (hst : st.2 = 0) (hR : Rde w g h gr st) (hB : Blo w b t cs) (hk : k < cs.size) (hbg : b ≠ g) (hbh : b ≠ h) (hbr : b ≠ gr) :
    Calls Try.prog 62 #[.pointer (some ⟨gr, 0, none⟩), .pointer (some ⟨b, k, none⟩)] w (Rpost g h gr b (D.nxt st).2 (fun w' => Blo w' b t (cs.setIfInBounds k (.int .i64 (D.nxt st).1))) w) := by
  refine (rnum_any (p := ⟨b, k, none⟩) hst hR.rd hR.me ((hB.cell k).trans (Array.getElem?_eq_getElem hk)) (hB.frozen k) hbg hbh hbr).mono ?_
  rintro e w' ⟨W, hg, hr, hb, h⟩
  have hgs : W.grownBy (W.setCell ⟨b, k, none⟩ (.int .i64 (D.nxt st).1)) (some b) := gb_set (World.grownBy.refl _ _) (.inl rfl) _
  have h2 : Two g b w w' := ((Two.of_g b hg).trans (Two.of_b g hgs)).trans (Two.of_new g b hb)
  refine ⟨h2, ?_⟩
  rcases h with ⟨h0, rfl⟩ | ⟨h0, rfl⟩
  · have hB1 := hB.grown hg (fun e => by injection e with e; exact hbg e)
    have hR1 : Rde W g h gr (D.nxt st).2 := ⟨hr, hR.me.grown hg (fun e => by injection e with e; exact hR.ne e.symm)⟩
    exact .inl ⟨h0, rfl, (hR1.grown hgs hbg hbh hbr).new hb, (hB1.put k _).new hb⟩
  · exact .inr ⟨h0, rfl⟩

/-- The reader's number, as a value. -/
abbrev rdo (gr : Nat) : Value := .func (.func 62) #[.pointer (some ⟨gr, 0, none⟩)] #[]

set_option maxRecDepth 100000 in
set_option maxHeartbeats 2000000 in
theorem rdot_any {g h gr b k : Nat} {t : TypeId} {cs : Array Value} {st : D.St} {w : World} (hst : st.2 = 0) (hR : Rde w g h gr st) (hB : Blo w b t cs) (hk : k + 1 < cs.size) (hbg : b ≠ g) (hbh : b ≠ h) (hbr : b ≠ gr) :
    Calls Try.prog 70 #[.pointer (some ⟨b, k, none⟩), rdo gr] w (Rpost g h gr b (E.itS st 2) (fun w' => Blo w' b t ((cs.setIfInBounds k (.int .i64 (E.itV st 0))).setIfInBounds (k + 1) (.int .i64 (E.itV st 1)))) w) := by
  go_enter Try.func70, Try.ntmps70
  go_wp2_with fail
  refine (rnumb_any hst hR hB (by omega) hbg hbh hbr).mono ?_
  rintro e w1 ⟨hT1, ⟨h0, rfl, hR1, hB1⟩ | ⟨h0, rfl⟩⟩
  · go_wp2_with fail
    refine (rnumb_any (k := k + 1) h0 hR1 hB1 (by simp; omega) hbg hbh hbr).mono ?_
    rintro e w2 ⟨hT2, ⟨h1, rfl, hR2, hB2⟩ | ⟨h1, rfl⟩⟩
    · have H1 := Lib.hid h1
      clear h0 h1
      go_wp2
      go_end0
      exact ⟨hT1.trans hT2, .inl ⟨H1.out, rfl, hR2, hB2⟩⟩
    · have H1 := Lib.hid h1
      clear h0 h1
      go_wp2
      exact ⟨rfl, hT1.trans hT2, .inr ⟨H1.out, rfl⟩⟩
  · have e2 : E.itS st 2 = E.itS st 1 := itS_err (k := 1) h0 1
    have E2 := Lib.hid e2
    have H1 := Lib.hid h0
    clear h0 e2
    go_wp2
    refine ⟨rfl, hT1, .inr ?_⟩
    rw [E2.out]
    exact ⟨H1.out, rfl⟩
end Go.Proofs.Ytlckappnpdkihaa
