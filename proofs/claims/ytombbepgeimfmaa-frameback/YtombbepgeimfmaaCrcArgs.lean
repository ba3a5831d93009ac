/- Rows of bytes that came in, in natural numbers; copies. -/
import Derived.Test.YtombbepgeimfmaaCrc
namespace Go.Proofs.Ytombbepgeimfmaa
open Go.ChangeShapes Go.WideShapes Go.ChangeAt Go.RowKit

theorem byt_nats {l : List Int} (h : Byt l) : u8s l = nby (C.nats l) := by
  unfold C.nats u8s nby
  rw [List.map_map]
  apply List.map_congr_left
  intro b hb
  have := h b hb
  show Value.int .u8 b = Value.int .u8 ((b.toNat : Nat) : Int)
  congr 1
  omega
theorem small_nats {l : List Int} (h : Byt l) : Small (C.nats l) := by
  intro c hc
  unfold C.nats at hc
  obtain ⟨b, hb, rfl⟩ := List.mem_map.1 hc
  have := h b hb
  omega
theorem RowIn.nat {w : World} {a : Option Addr} {len cap : Nat} {zs : List Int} (h : RowIn .u8 w a len cap zs) :
    ∃ l : List Nat, l.length = len ∧ Rds w (· < w.heap.size) a (nby l) ∧ Small l := by
  refine ⟨C.nats (zs.take len), by have := h.len.1; simpa [C.nats] using this, ?_, small_nats h.byt⟩
  rw [← byt_nats h.byt]
  exact h.rds
theorem RowIn.max {w : World} {k : IntKind} {a : Option Addr} {len cap : Nat} {zs : List Int} (h : RowIn k w a len cap zs) : len ≤ maxLen := by
  rcases h with ⟨_, h, _⟩ | ⟨_, _, h1, h2, _⟩ <;> omega
theorem one_byt (l : List Nat) : ∀ u ∈ nby l, u.oneCell' = true := by
  intro u hu
  obtain ⟨z, _, rfl⟩ := List.mem_map.1 hu
  rfl
theorem Small.app {l m : List Nat} (h : Small l) (k : Small m) : Small (l ++ m) := fun b hb => by
  rcases List.mem_append.1 hb with h1 | h1
  · exact h b h1
  · exact k b h1
theorem sum_at (S : Nat → Prop) (A : Option Addr) (n cap : Nat) (l : List Nat) (w : World) (hn : n = l.length) (hr : Rds w S A (nby l)) (hl : l.length ≤ 1000000) (hb : Small l) :
    Calls Try.prog 19 #[.slice A n cap] w fun e w' => e = .returned (.int .u32 (C.more 0 l : Nat)) ∧ w = w' := by
  subst hn
  exact sum_any S A cap l w hr hl hb
end Go.Proofs.Ytombbepgeimfmaa
