/- Layer 13: how the laws hold a disk. -/
import Derived.Test.YtfllebfegngdhaaDkP
import Derived.Lib.SlBytesConst
import Derived.Laws.BytesArg
namespace Go.Proofs.Ytfllebfegngdhaa
set_option linter.unusedVariables false
set_option linter.unusedSimpArgs false
open Go.ChangeShapes Go.WideShapes Go.ChangeAt Go.RowKit Go.Deep

/-- A disk of the law's own, all of it made since w0. -/
def DS (w0 W : World) (g : Nat) (Z : Int) (L : List Int) (us : List Dk.U) : Prop := Dk.Ok Z L us ∧ ∃ fp : Nat → Prop, PD W fp g Z L us ∧ (∀ b, fp b → w0.heap.size ≤ b ∧ b < W.heap.size) ∧ Below w0.heap.size w0 W
theorem DS.new {w0 W W' : World} {g : Nat} {Z : Int} {L : List Int} {us : List Dk.U} (h : DS w0 W g Z L us) (hb : Below W.heap.size W W') : DS w0 W' g Z L us := by
  obtain ⟨ho, fp, h1, h2, h3⟩ := h
  exact ⟨ho, fp, h1.keep fun b _ hl => hb.block b hl, fun b hf => ⟨(h2 b hf).1, Nat.lt_of_lt_of_le (h2 b hf).2 hb.size⟩, h3.trans (hb.mono h3.size)⟩
/-- What a step leaves of it, called at W': all but what the disk had at W is as it was. -/
def DSPost (r : Value) (w0 W W' : World) (g : Nat) (Z : Int) (L : List Int) (us : List Dk.U) (e : Ending) (w' : World) : Prop := e = .returned r ∧ DS w0 w' g Z L us ∧ Kp (fun b => w0.heap.size ≤ b ∧ b < W.heap.size) W' w'
theorem DS.of {w0 W W' w' : World} {fp : Nat → Prop} {g : Nat} {Z : Int} {L : List Int} {us : List Dk.U} {r : Value} {e : Ending} (hO : Dk.Ok Z L us) (hf : ∀ b, fp b → w0.heap.size ≤ b ∧ b < W.heap.size) (hb0 : Below w0.heap.size w0 W) (hb : Below W.heap.size W W')
    (h : PskPost r Z L us fp g W' e w') : DSPost r w0 W W' g Z L us e w' := by
  obtain ⟨he, h1, h2⟩ := h
  have hs := hb0.size
  have hs' := hb.size
  refine ⟨he, ⟨hO, fun b => (fp b ∨ W'.heap.size ≤ b) ∧ b < w'.heap.size, h1.mono fun b hb hl => ⟨hb, hl⟩, fun b hb => ⟨?_, hb.2⟩, (hb0.trans (hb.mono hs)).trans (h2.below (Nat.le_trans hs hs') fun b hb _ => (hf b hb).1)⟩, h2.more fun b hb => .inl (hf b hb)⟩
  rcases hb.1 with hb | hb
  · exact (hf b hb).1
  · omega
section
variable {w0 W W' : World} {g : Nat} {Z : Int} {L : List Int} {us : List Dk.U}
theorem DS.append (h : DS w0 W g Z L us) (hl : us.length ≤ 900000000) (hb : Below W.heap.size W W') (S : Nat → Prop) (A : Option Addr) (n c : Nat) (xs : List Int) (hn : xs.length = n) (hr : Rds W' S A (u8s xs)) (hS : ∀ b, S b → b < W'.heap.size → b < w0.heap.size ∨ W.heap.size ≤ b) (hn47 : n ≤ 140737488355328) :
    Calls Try.prog 17 #[.pointer (some ⟨g, 0, none⟩), .slice A n c] W' (DSPost (.int .i64 (Dk.apE Z L us xs)) w0 W W' g Z L (Dk.apU Z L us xs)) := by
  obtain ⟨ho, fp, h1, h2, h3⟩ := h
  exact (pappend_any (h1.keep fun b _ hl => hb.block b hl) ho hl S A n c xs hn hr (fun b hb hl hf => by
    have := h2 b hf
    have := hS b hb hl
    omega) hn47).mono fun e w' k => DS.of (Dk.apU_ok ho xs) h2 h3 hb k
theorem DS.swap (h : DS w0 W g Z L us) (hl : us.length ≤ 900000000) (hb : Below W.heap.size W W') (S : Nat → Prop) (A : Option Addr) (n c : Nat) (xs : List Int) (hn : xs.length = n) (hr : Rds W' S A (u8s xs)) (hS : ∀ b, S b → b < W'.heap.size → b < w0.heap.size ∨ W.heap.size ≤ b) (hn47 : n ≤ 140737488355328) :
    Calls Try.prog 21 #[.pointer (some ⟨g, 0, none⟩), .slice A n c] W' (DSPost (.int .i64 (Dk.swE Z xs)) w0 W W' g Z L (Dk.swU Z us xs)) := by
  obtain ⟨ho, fp, h1, h2, h3⟩ := h
  exact (pswap_any (h1.keep fun b _ hl => hb.block b hl) ho hl S A n c xs hn hr (fun b hb hl hf => by
    have := h2 b hf
    have := hS b hb hl
    omega) hn47).mono fun e w' k => DS.of (Dk.swU_ok ho xs) h2 h3 hb k
theorem DS.sync (h : DS w0 W g Z L us) (hl : us.length ≤ 900000000) (hb : Below W.heap.size W W') :
    Calls Try.prog 31 #[.pointer (some ⟨g, 0, none⟩)] W' (DSPost (.int .i64 0) w0 W W' g Z (Dk.aft L us) []) := by
  obtain ⟨ho, fp, h1, h2, h3⟩ := h
  exact (psync_any (h1.keep fun b _ hl => hb.block b hl) ho hl).mono fun e w' k => DS.of (by have := ho.crash us.length; rwa [List.take_length] at this) h2 h3 hb k
theorem DS.crash (h : DS w0 W g Z L us) (hl : us.length ≤ 900000000) (hb : Below W.heap.size W W') (keep : Int) (hk : keep < 9223372036854775808 := by omega) :
    Calls Try.prog 19 #[.pointer (some ⟨g, 0, none⟩), .int .i64 keep] W' (DSPost (.tuple #[]) w0 W W' g Z (Dk.aft L (us.take (Dk.cut keep us.length))) []) := by
  obtain ⟨ho, fp, h1, h2, h3⟩ := h
  exact (pcrash_any (h1.keep fun b _ hl => hb.block b hl) ho hl keep hk).mono fun e w' k => DS.of (ho.crash _) h2 h3 hb k
theorem DS.read (h : DS w0 W g Z L us) (hl : us.length ≤ 900000000) (hb : Below W.heap.size W W') :
    Calls Try.prog 27 #[.pointer (some ⟨g, 0, none⟩)] W' (NewB (Dk.aft L us) W') := by
  obtain ⟨ho, fp, h1, h2, h3⟩ := h
  exact pread_any (h1.keep fun b _ hl => hb.block b hl) ho hl
theorem DS.wait (h : DS w0 W g Z L us) (hl : us.length ≤ 900000000) (hb : Below W.heap.size W W') :
    Calls Try.prog 30 #[.pointer (some ⟨g, 0, none⟩)] W' fun e w' => e = .returned (.int .i64 (us.length : Int)) ∧ Below W'.heap.size W' w' := by
  obtain ⟨ho, fp, h1, h2, h3⟩ := h
  exact pwait_any (h1.keep fun b _ hl => hb.block b hl) ho hl
end
/-- A literal that was just made. -/
theorem lit_at (W : World) (l : List Int) (t : TypeId) (fr : Nat × Nat) : Rds (W.alloc (.cells (u8s l).toArray t fr)) (· = W.heap.size) (some ⟨W.heap.size, 0, none⟩) (u8s l) := fun j u hu => ⟨_, rfl, rfl, by
  rw [M.addMk, Nat.zero_add, cell_of_row _ _ _ _ t fr (heap_alloc_new W _)]
  simpa using hu⟩
end Go.Proofs.Ytfllebfegngdhaa
