/- Layer 13: a disk apart from what stays. -/
import Derived.Test.YtfllebfegngdhaaDkHold
namespace Go.Proofs.Ytfllebfegngdhaa
set_option linter.unusedVariables false
set_option linter.unusedSimpArgs false
open Go.ChangeShapes Go.WideShapes Go.ChangeAt Go.RowKit Go.Deep

/-- A disk of the law's own, apart from the blocks of X. -/
def DX (w0 W : World) (X : Nat → Prop) (g : Nat) (Z : Int) (L : List Int) (us : List Dk.U) : Prop := Dk.Ok Z L us ∧ ∃ fp : Nat → Prop, PD W fp g Z L us ∧ (∀ b, fp b → w0.heap.size ≤ b ∧ b < W.heap.size ∧ ¬ X b) ∧ Below w0.heap.size w0 W
section
variable {w0 W W' w' : World} {X : Nat → Prop} {g : Nat} {Z : Int} {L : List Int} {us : List Dk.U}
theorem DX.ds (h : DX w0 W X g Z L us) : DS w0 W g Z L us := by
  obtain ⟨o, fp, h1, h2, h3⟩ := h
  exact ⟨o, fp, h1, fun b hf => ⟨(h2 b hf).1, (h2 b hf).2.1⟩, h3⟩
theorem DS.dx (h : DS w0 W g Z L us) (hb : Below W.heap.size W W') : DX w0 W' (fun b => W.heap.size ≤ b ∧ b < W'.heap.size) g Z L us := by
  obtain ⟨o, fp, h1, h2, h3⟩ := h
  have hs := hb.size
  exact ⟨o, fp, h1.keep fun b _ hl => hb.block b hl, fun b hf => ⟨(h2 b hf).1, by have := (h2 b hf).2; omega, fun hx => by have := (h2 b hf).2; omega⟩, h3.trans (hb.mono h3.size)⟩
theorem DX.new (h : DX w0 W X g Z L us) (hb : Below W.heap.size W W') : DX w0 W' X g Z L us := by
  obtain ⟨o, fp, h1, h2, h3⟩ := h
  have hs := hb.size
  exact ⟨o, fp, h1.keep fun b _ hl => hb.block b hl, fun b hf => ⟨(h2 b hf).1, by have := (h2 b hf).2.1; omega, (h2 b hf).2.2⟩, h3.trans (hb.mono h3.size)⟩
theorem DX.dx (h : DX w0 W X g Z L us) (hb : Below W.heap.size W W') : DX w0 W' (fun b => X b ∨ W.heap.size ≤ b ∧ b < W'.heap.size) g Z L us := by
  obtain ⟨o, fp, h1, h2, h3⟩ := h
  have hs := hb.size
  exact ⟨o, fp, h1.keep fun b _ hl => hb.block b hl, fun b hf => ⟨(h2 b hf).1, by have := (h2 b hf).2.1; omega, fun hx => hx.elim (h2 b hf).2.2 fun hx => by have := (h2 b hf).2.1; omega⟩, h3.trans (hb.mono h3.size)⟩
def DXPost (r : Value) (w0 W' : World) (X : Nat → Prop) (g : Nat) (Z : Int) (L : List Int) (us : List Dk.U) (e : Ending) (w' : World) : Prop :=
  e = .returned r ∧ DX w0 w' X g Z L us ∧ W'.heap.size ≤ w'.heap.size ∧ ∀ b, X b → b < W'.heap.size → w'.heap[b]? = W'.heap[b]?
theorem DX.of {fp : Nat → Prop} {r : Value} {e : Ending} (o : Dk.Ok Z L us) (hX : ∀ b, X b → b < W.heap.size) (h2 : ∀ b, fp b → w0.heap.size ≤ b ∧ b < W.heap.size ∧ ¬ X b) (h3 : Below w0.heap.size w0 W) (h : PskPost r Z L us fp g W e w') : DXPost r w0 W X g Z L us e w' := by
  obtain ⟨he, k1, k2⟩ := h
  have hs0 := h3.size
  refine ⟨he, ⟨o, fun b => (fp b ∨ W.heap.size ≤ b) ∧ b < w'.heap.size, k1.mono fun b hb hl => ⟨hb, hl⟩, fun b hp => ?_, h3.trans (k2.below hs0 fun b hp _ => (h2 b hp).1)⟩, k2.size, fun b hx hl => k2.block b hl fun hp => (h2 b hp).2.2 hx⟩
  rcases hp.1 with h | h
  · exact ⟨(h2 b h).1, hp.2, (h2 b h).2.2⟩
  · exact ⟨by omega, hp.2, fun hx => by have := hX b hx; omega⟩
theorem DX.append (h : DX w0 W X g Z L us) (hX : ∀ b, X b → b < W.heap.size) (hl : us.length ≤ 900000000) (S : Nat → Prop) (A : Option Addr) (n c : Nat) (xs : List Int) (hn : xs.length = n) (hr : Rds W S A (u8s xs)) (hS : ∀ b, S b → b < W.heap.size → b < w0.heap.size) (hn47 : n ≤ 140737488355328) :
    Calls Try.prog 17 #[.pointer (some ⟨g, 0, none⟩), .slice A n c] W (DXPost (.int .i64 (Dk.apE Z L us xs)) w0 W X g Z L (Dk.apU Z L us xs)) := by
  obtain ⟨o, fp, h1, h2, h3⟩ := h
  exact (pappend_any h1 o hl S A n c xs hn hr (fun b hb hl hf => by have := (h2 b hf).1; have := hS b hb hl; omega) hn47).mono fun e w' k => DX.of (Dk.apU_ok o xs) hX h2 h3 k
theorem DX.crash (h : DX w0 W X g Z L us) (hX : ∀ b, X b → b < W.heap.size) (hl : us.length ≤ 900000000) (keep : Int) (hk : keep < 9223372036854775808 := by omega) :
    Calls Try.prog 19 #[.pointer (some ⟨g, 0, none⟩), .int .i64 keep] W (DXPost (.tuple #[]) w0 W X g Z (Dk.aft L (us.take (Dk.cut keep us.length))) []) := by
  obtain ⟨o, fp, h1, h2, h3⟩ := h
  exact (pcrash_any h1 o hl keep hk).mono fun e w' k => DX.of (o.crash _) hX h2 h3 k
end
end Go.Proofs.Ytfllebfegngdhaa
