/- Layer 7: rows of events: fourteen cells an event, each with a row of dots of its own. -/
import Derived.Test.YtlckappnpdkihaaEvMem
namespace Go.Proofs.Ytlckappnpdkihaa
set_option linter.unusedVariables false
set_option linter.unusedSimpArgs false
open Go.ChangeShapes Go.WideShapes Go.ChangeAt Go.RowKit

/-- An event in memory: its numbers, its dots, where these lie. -/
structure EvV where
  F : Nat → Int
  M : List D.Dot
  A : Option Addr
  c : Nat
abbrev EvV.cells (e : EvV) : Array Value := ecs e.F e.A e.M.length e.c
abbrev EvV.val (e : EvV) : Value := ev e.F e.A e.M.length e.c
def evs : List EvV → List Value
  | [] => []
  | e :: l => e.cells.toList ++ evs l
theorem evs_len (l : List EvV) : (evs l).length = l.length * 14 := by
  induction l with
  | nil => rfl
  | cons e l ih => simp [evs, ih]; omega
theorem evs_app (l m : List EvV) : evs (l ++ m) = evs l ++ evs m := by
  induction l with
  | nil => rfl
  | cons e l ih => simp [evs, ih]
theorem evs_at : ∀ (l : List EvV) (i : Nat) (hi : i < l.length) (k : Nat), k < 14 → (evs l)[i * 14 + k]? = l[i].cells[k]? := by
  intro l
  induction l with
  | nil => intro i hi; simp at hi
  | cons e l ih =>
    intro i hi k hk
    cases i with
    | zero =>
      have : (evs (e :: l))[0 * 14 + k]? = (e.cells.toList ++ evs l)[k]? := by rw [show 0 * 14 + k = k by omega]; rfl
      rw [this, List.getElem?_append_left (by simp; omega)]
      simp
    | succ i =>
      have := ih i (by simpa using hi) k hk
      have e1 : (evs (e :: l))[(i + 1) * 14 + k]? = (e.cells.toList ++ evs l)[14 + (i * 14 + k)]? := by rw [show (i + 1) * 14 + k = 14 + (i * 14 + k) by omega]; rfl
      rw [e1, List.getElem?_append_right (by simp)]
      simpa using this
/-- A slice that reads as these events, each with its dots. -/
def ERds (w : World) (S : Nat → Prop) (A : Option Addr) (l : List EvV) : Prop := Rds w S A (evs l) ∧ ∀ e ∈ l, Rds w S e.A (dvs e.M)
theorem ERds.new {w w' : World} {S : Nat → Prop} {A : Option Addr} {l : List EvV} (h : ERds w S A l) (hb : Below w.heap.size w w') : ERds w' S A l := ⟨h.1.new hb, fun e he => (h.2 e he).new hb⟩
/-- The event at i. -/
theorem ERds.ev {w : World} {S : Nat → Prop} {A : Option Addr} {l : List EvV} (h : ERds w S A l) {i : Nat} (hi : i < l.length) :
    ∃ ad, A = some ad ∧ S ad.block ∧ w.cell? (ad.add (i * 14)) = some (.int .i64 (l[i].F 0)) ∧ (∀ k v, 0 < k → l[i].cells[k]? = some v → w.cell? ⟨(ad.add (i * 14)).block, (ad.add (i * 14)).off + k, none⟩ = some v) ∧ Rds w S l[i].A (dvs l[i].M) := by
  have h0 := evs_at l i hi 0 (by omega)
  rw [Nat.add_zero] at h0
  obtain ⟨ad, rfl, hs, hc⟩ := h.1 _ _ (h0.trans (by simp : l[i].cells[0]? = some (.int .i64 (l[i].F 0))))
  refine ⟨ad, rfl, hs, hc, fun k v hk hv => ?_, h.2 _ (List.getElem_mem hi)⟩
  have hk14 : k < 14 := by
    rcases Nat.lt_or_ge k 14 with h | h
    · exact h
    · rw [Array.getElem?_eq_none (by simpa using h)] at hv; cases hv
  obtain ⟨ad', e, _, hc'⟩ := h.1 _ _ ((evs_at l i hi k hk14).trans hv)
  injection e with e
  subst e
  rw [← M.addOff _ _ _ hk]
  exact hc'
/-- The same, cell by cell. -/
theorem ERds.cells {w : World} {S : Nat → Prop} {A : Option Addr} {l : List EvV} (h : ERds w S A l) {i : Nat} (hi : i < l.length) :
    ∃ ad, A = some ad ∧ S ad.block ∧ Rds w S l[i].A (dvs l[i].M) ∧ w.cell? (ad.add (i * 14)) = some (.int .i64 (l[i].F 0)) ∧ w.cell? ⟨(ad.add (i * 14)).block, (ad.add (i * 14)).off + 1, none⟩ = some (.int .i64 (l[i].F 1)) ∧ w.cell? ⟨(ad.add (i * 14)).block, (ad.add (i * 14)).off + 2, none⟩ = some (.int .i64 (l[i].F 2)) ∧ w.cell? ⟨(ad.add (i * 14)).block, (ad.add (i * 14)).off + 3, none⟩ = some (.int .i64 (l[i].F 3)) ∧ w.cell? ⟨(ad.add (i * 14)).block, (ad.add (i * 14)).off + 4, none⟩ = some (.int .i64 (l[i].F 4)) ∧ w.cell? ⟨(ad.add (i * 14)).block, (ad.add (i * 14)).off + 5, none⟩ = some (.int .i64 (l[i].F 5)) ∧ w.cell? ⟨(ad.add (i * 14)).block, (ad.add (i * 14)).off + 6, none⟩ = some (.int .i64 (l[i].F 6)) ∧ w.cell? ⟨(ad.add (i * 14)).block, (ad.add (i * 14)).off + 7, none⟩ = some (.int .i64 (l[i].F 7)) ∧ w.cell? ⟨(ad.add (i * 14)).block, (ad.add (i * 14)).off + 8, none⟩ = some (.int .i64 (l[i].F 8)) ∧ w.cell? ⟨(ad.add (i * 14)).block, (ad.add (i * 14)).off + 9, none⟩ = some (.int .i64 (l[i].F 9)) ∧ w.cell? ⟨(ad.add (i * 14)).block, (ad.add (i * 14)).off + 10, none⟩ = some (.int .i64 (l[i].F 10)) ∧ w.cell? ⟨(ad.add (i * 14)).block, (ad.add (i * 14)).off + 11, none⟩ = some (.int .i64 (l[i].F 11)) ∧ w.cell? ⟨(ad.add (i * 14)).block, (ad.add (i * 14)).off + 12, none⟩ = some (.int .i64 (l[i].F 12)) ∧ w.cell? ⟨(ad.add (i * 14)).block, (ad.add (i * 14)).off + 13, none⟩ = some (.slice l[i].A l[i].M.length l[i].c) := by
  obtain ⟨ad, e, hs, h0, hk, hr⟩ := h.ev hi
  exact ⟨ad, e, hs, hr, h0, hk 1 _ (by omega) rfl, hk 2 _ (by omega) rfl, hk 3 _ (by omega) rfl, hk 4 _ (by omega) rfl, hk 5 _ (by omega) rfl, hk 6 _ (by omega) rfl, hk 7 _ (by omega) rfl, hk 8 _ (by omega) rfl, hk 9 _ (by omega) rfl, hk 10 _ (by omega) rfl, hk 11 _ (by omega) rfl, hk 12 _ (by omega) rfl, hk 13 _ (by omega) rfl⟩
theorem ERds.below {w w' : World} {S : Nat → Prop} {A : Option Addr} {l : List EvV} {B : Nat} (h : ERds w S A l) (hb : Below B w w') (hS : ∀ b, S b → b < w.heap.size → b < B) : ERds w' S A l := ⟨h.1.below hb hS, fun e he => (h.2 e he).below hb hS⟩
theorem ERds.mono {w : World} {S S' : Nat → Prop} {A : Option Addr} {l : List EvV} (h : ERds w S A l) (hS : ∀ b, S b → S' b) : ERds w S' A l := ⟨h.1.mono hS, fun e he => (h.2 e he).mono hS⟩
theorem ERds.old {w : World} {S : Nat → Prop} {A : Option Addr} {l : List EvV} (h : ERds w S A l) : ERds w (fun b => S b ∧ b < w.heap.size) A l := ⟨h.1.old, fun e he => (h.2 e he).old⟩
end Go.Proofs.Ytlckappnpdkihaa
