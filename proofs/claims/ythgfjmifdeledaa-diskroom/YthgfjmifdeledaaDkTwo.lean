/- Layer 13: two disks that lie apart; a disk apart from what stays. -/
import Derived.Test.YthgfjmifdeledaaDkLaw
import Derived.Test.YthgfjmifdeledaaDkApart
import Derived.Test.YthgfjmifdeledaaSameY
namespace Go.Proofs.Ythgfjmifdeledaa
set_option linter.unusedVariables false
set_option linter.unusedSimpArgs false
open Go.ChangeShapes Go.WideShapes Go.ChangeAt Go.RowKit Go.Deep

/-- Two disks of the law's own, apart from one another. -/
def DTwo (w0 W : World) (g1 g2 : Nat) (Z : Int) (L1 : List Int) (us1 : List Dk.U) (L2 : List Int) (us2 : List Dk.U) : Prop :=
  Dk.Ok Z L1 us1 ∧ Dk.Ok Z L2 us2 ∧ ∃ fp fq : Nat → Prop, PD W fp g1 Z L1 us1 ∧ PD W fq g2 Z L2 us2 ∧ (∀ b, fp b → w0.heap.size ≤ b ∧ b < W.heap.size) ∧ (∀ b, fq b → w0.heap.size ≤ b ∧ b < W.heap.size) ∧ (∀ b, fp b → ¬ fq b) ∧ Below w0.heap.size w0 W
section
variable {w0 W W' w' : World} {g1 g2 : Nat} {Z : Int} {L1 L2 : List Int} {us1 us2 : List Dk.U}
theorem DTwo.symm (h : DTwo w0 W g1 g2 Z L1 us1 L2 us2) : DTwo w0 W g2 g1 Z L2 us2 L1 us1 := by
  obtain ⟨o1, o2, fp, fq, h1, h2, h3, h4, h5, h6⟩ := h
  exact ⟨o2, o1, fq, fp, h2, h1, h4, h3, fun b hq hp => h5 b hp hq, h6⟩
theorem DTwo.bel (h : DTwo w0 W g1 g2 Z L1 us1 L2 us2) : Below w0.heap.size w0 W := by
  obtain ⟨o1, o2, fp, fq, h1, h2, h3, h4, h5, h6⟩ := h
  exact h6
theorem DTwo.new (h : DTwo w0 W g1 g2 Z L1 us1 L2 us2) (hb : Below W.heap.size W W') : DTwo w0 W' g1 g2 Z L1 us1 L2 us2 := by
  obtain ⟨o1, o2, fp, fq, h1, h2, h3, h4, h5, h6⟩ := h
  have hs := hb.size
  exact ⟨o1, o2, fp, fq, h1.keep fun b _ hl => hb.block b hl, h2.keep fun b _ hl => hb.block b hl, fun b hf => ⟨(h3 b hf).1, Nat.lt_of_lt_of_le (h3 b hf).2 hs⟩, fun b hf => ⟨(h4 b hf).1, Nat.lt_of_lt_of_le (h4 b hf).2 hs⟩, h5, h6.trans (hb.mono h6.size)⟩
/-- The first alone. -/
theorem DTwo.fst (h : DTwo w0 W g1 g2 Z L1 us1 L2 us2) : DS w0 W g1 Z L1 us1 := by
  obtain ⟨o1, o2, fp, fq, h1, h2, h3, h4, h5, h6⟩ := h
  exact ⟨o1, fp, h1, h3, h6⟩
theorem DTwo.mk (h : DS w0 W g1 Z L1 us1) {fq : Nat → Prop} (hb : Below W.heap.size W W') (o2 : Dk.Ok Z L2 us2) (h2 : PD W' fq g2 Z L2 us2) (h4 : ∀ b, fq b → W.heap.size ≤ b ∧ b < W'.heap.size) : DTwo w0 W' g1 g2 Z L1 us1 L2 us2 := by
  obtain ⟨o1, fp, h1, h3, h6⟩ := h
  have hs := hb.size
  have hs0 := h6.size
  exact ⟨o1, o2, fp, fq, h1.keep fun b _ hl => hb.block b hl, h2, fun b hf => ⟨(h3 b hf).1, Nat.lt_of_lt_of_le (h3 b hf).2 hs⟩, fun b hf => ⟨by have := (h4 b hf).1; omega, (h4 b hf).2⟩, fun b hp hq => by have := h3 b hp; have := h4 b hq; omega, h6.trans (hb.mono h6.size)⟩
/-- What a step of the first leaves: the box that was made since is as it was. -/
def DTwoPost (r : Value) (w0 W W' : World) (g1 g2 : Nat) (Z : Int) (L1 : List Int) (us1 : List Dk.U) (L2 : List Int) (us2 : List Dk.U) (e : Ending) (w' : World) : Prop :=
  e = .returned r ∧ DTwo w0 w' g1 g2 Z L1 us1 L2 us2 ∧ ∀ b, W.heap.size ≤ b → b < W'.heap.size → w'.heap[b]? = W'.heap[b]?
theorem DTwo.run (h : DTwo w0 W g1 g2 Z L1 us1 L2 us2) (hb : Below W.heap.size W W') {r : Value} {L' : List Int} {us' : List Dk.U} (o' : Dk.Ok Z L' us') {f : FuncId} {args : Array Value}
    (H : ∀ fp : Nat → Prop, PD W' fp g1 Z L1 us1 → (∀ b, fp b → w0.heap.size ≤ b ∧ b < W.heap.size) → Calls Try.prog f args W' (PskPost r Z L' us' fp g1 W')) :
    Calls Try.prog f args W' (DTwoPost r w0 W W' g1 g2 Z L' us' L2 us2) := by
  obtain ⟨o1, o2, fp, fq, h1, h2, h3, h4, h5, h6⟩ := h
  have hs := hb.size
  have hs0 := h6.size
  refine (H fp (h1.keep fun b _ hl => hb.block b hl) h3).mono fun e w'' k => ?_
  obtain ⟨he, k1, k2⟩ := k
  have hs2 := k2.size
  refine ⟨he, ⟨o', o2, fun b => (fp b ∨ W'.heap.size ≤ b) ∧ b < w''.heap.size, fq, k1.mono fun b hb hl => ⟨hb, hl⟩, (h2.keep (w' := W') fun b _ hl => hb.block b hl).keep fun b hq hl => k2.block b hl fun hp => h5 b hp hq, fun b hp => ⟨?_, hp.2⟩, fun b hq => ⟨(h4 b hq).1, by have := (h4 b hq).2; omega⟩, fun b hp hq => ?_, (h6.trans (hb.mono hs0)).trans (k2.below (Nat.le_trans hs0 hs) fun b hp _ => (h3 b hp).1)⟩, fun b hl hl2 => k2.block b hl2 fun hp => by have := (h3 b hp).2; omega⟩
  · rcases hp.1 with hp | hp
    · exact (h3 b hp).1
    · omega
  · rcases hp.1 with hp | hp
    · exact h5 b hp hq
    · have := (h4 b hq).2; omega
theorem DTwo.do (h : DTwo w0 W g1 g2 Z L1 us1 L2 us2) (hl : us1.length ≤ 900000000) (hb : Below W.heap.size W W') (k N : Int) (S : Nat → Prop) (A : Option Addr) (n c : Nat) (xs : List Int) (hn : xs.length = n) (hr : Rds W' S A (u8s xs)) (hS : ∀ b, S b → b < W'.heap.size → b < w0.heap.size ∨ W.heap.size ≤ b) (hn47 : n ≤ 140737488355328) (hN : N < 9223372036854775808 := by omega) :
    Calls Try.prog 11 #[.pointer (some ⟨g1, 0, none⟩), opv k N A n c] W' (DTwoPost (.int .i64 (Dk.stp Z L1 us1 k N xs).1) w0 W W' g1 g2 Z (Dk.stp Z L1 us1 k N xs).2.1 (Dk.stp Z L1 us1 k N xs).2.2 L2 us2) :=
  h.run hb (Dk.stp_ok h.1 _ _ xs) fun fp h1 h2 => pdo_any h1 h.1 hl k N S A n c xs hn hr (fun b hb hl hf => by
    have := h2 b hf
    have := hS b hb hl
    omega) hn47 hN
theorem DTwo.sync (h : DTwo w0 W g1 g2 Z L1 us1 L2 us2) (hl : us1.length ≤ 900000000) (hb : Below W.heap.size W W') :
    Calls Try.prog 18 #[.pointer (some ⟨g1, 0, none⟩)] W' (DTwoPost (.int .i64 0) w0 W W' g1 g2 Z (Dk.aft L1 us1) [] L2 us2) :=
  h.run hb (by have := h.1.crash us1.length; rwa [List.take_length] at this) fun fp h1 h2 => psync_any h1 h.1 hl
theorem DTwo.crash (h : DTwo w0 W g1 g2 Z L1 us1 L2 us2) (hl : us1.length ≤ 900000000) (hb : Below W.heap.size W W') (keep : Int) (hk : keep < 9223372036854775808 := by omega) :
    Calls Try.prog 19 #[.pointer (some ⟨g1, 0, none⟩), .int .i64 keep] W' (DTwoPost (.tuple #[]) w0 W W' g1 g2 Z (Dk.aft L1 (us1.take (Dk.cut keep us1.length))) [] L2 us2) :=
  h.run hb (h.1.crash _) fun fp h1 h2 => pcrash_any h1 h.1 hl keep hk
end

end Go.Proofs.Ythgfjmifdeledaa
