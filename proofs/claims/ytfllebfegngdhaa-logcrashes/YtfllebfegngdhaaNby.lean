/- Rows of bytes in natural numbers: rows that came in, literals, copies. -/
import Derived.Test.YtfllebfegngdhaaMem
namespace Go.Proofs.Ytfllebfegngdhaa
open Go.ChangeShapes Go.WideShapes Go.ChangeAt Go.RowKit

/-- Of whole numbers. -/
def C.nats (l : List Int) : List Nat := l.map Int.toNat
/-- A row of bytes, as natural numbers. -/
abbrev nby (l : List Nat) : List Value := l.map fun n : Nat => Value.int .u8 (n : Int)
theorem Rds.byte {w : World} {S : Nat → Prop} {A : Option Addr} {l : List Nat} (h : Rds w S A (nby l)) {j : Nat} (hj : j < l.length) : ∃ ad, A = some ad ∧ S ad.block ∧ w.cell? (ad.add j) = some (.int .u8 ((l[j] : Nat) : Int)) := by
  have := h.at (j := j) (by simpa using hj)
  simpa using this
def Small (l : List Nat) : Prop := ∀ c ∈ l, c < 256
theorem Small.at {l : List Nat} (h : Small l) {j : Nat} (hj : j < l.length) : l[j] < 256 := h _ (List.getElem_mem hj)
theorem blit_rds (w : World) (l : List Nat) (t : TypeId) (fr : Nat × Nat) : Rds (w.alloc (.cells (nby l).toArray t fr)) (fun _ => True) (some ⟨w.heap.size, 0, none⟩) (nby l) := by
  intro j u hu
  refine ⟨_, rfl, trivial, ?_⟩
  rw [M.addMk, Nat.zero_add, cell_of_row _ _ _ _ t fr (heap_alloc_new w _)]
  simpa using hu
theorem byt_nats {l : List Int} (h : Byt l) : u8s l = nby (C.nats l) := by
  unfold C.nats u8s nby
  rw [List.map_map]
  apply List.map_congr_left
  intro b hb
  have := h b hb
  show Value.int .u8 b = Value.int .u8 ((b.toNat : Nat) : Int)
  congr 1
  omega
theorem small_nats {l : List Int} (h : Byt l) : Small (C.nats l) := by
  intro c hc
  unfold C.nats at hc
  obtain ⟨b, hb, rfl⟩ := List.mem_map.1 hc
  have := h b hb
  omega
theorem RowIn.nat {w : World} {a : Option Addr} {len cap : Nat} {zs : List Int} (h : RowIn .u8 w a len cap zs) :
    ∃ l : List Nat, l.length = len ∧ Rds w (· < w.heap.size) a (nby l) ∧ Small l := by
  refine ⟨C.nats (zs.take len), by have := h.len.1; simpa [C.nats] using this, ?_, small_nats h.byt⟩
  rw [← byt_nats h.byt]
  exact h.rds
theorem RowIn.max {w : World} {k : IntKind} {a : Option Addr} {len cap : Nat} {zs : List Int} (h : RowIn k w a len cap zs) : len ≤ maxLen := by
  rcases h with ⟨_, h, _⟩ | ⟨_, _, h1, h2, _⟩ <;> omega
theorem one_byt (l : List Nat) : ∀ u ∈ nby l, u.oneCell' = true := by
  intro u hu
  obtain ⟨z, _, rfl⟩ := List.mem_map.1 hu
  rfl
theorem Small.app {l m : List Nat} (h : Small l) (k : Small m) : Small (l ++ m) := fun b hb => by
  rcases List.mem_append.1 hb with h1 | h1
  · exact h b h1
  · exact k b h1
end Go.Proofs.Ytfllebfegngdhaa
