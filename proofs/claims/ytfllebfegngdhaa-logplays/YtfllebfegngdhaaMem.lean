/- Words for memory, for whatever package: a slice that reads as a list of values (Rds), a block that is known whole (Blo), what an append leaves; numbers in rows. | What the frame's readings of arguments say, in this text's words: integers, rows of integers, rows of records of integers. | Parts of slices, their addresses by a name; append in a region that draws its order. -/
import Derived.Test.YtfllebfegngdhaaRows
import Derived.WalkKit
import Derived.ProofKit
import Derived.Below
import Derived.Lib.Hide
import Derived.Deep.QuietTactic
import Derived.Deep.Draws
import Derived.Maps.AppendAt
import Derived.Laws.OwnMore
import Derived.Laws.CopyOwn
import Derived.OpenShut
import Derived.Deep.Slices
import Derived.Deep.SlicePairs
import Derived.Deep.Matrix
import Derived.Lib.SmallJoins
import Derived.Deep.RegionHeld3
import Derived.Deep.AppendLies
import Derived.IntWalk

section
namespace Go.Proofs.Ytfllebfegngdhaa
open Go.RowKit

theorem M.addBlock (a : Addr) (n : Nat) : (a.add n).block = a.block := by unfold Addr.add; split <;> rfl
theorem M.addAdd (a : Addr) (i j : Nat) : (a.add i).add j = a.add (i + j) := by
  unfold Addr.add
  by_cases hi : i = 0 <;> by_cases hj : j = 0 <;> simp [hi, hj, Nat.add_assoc]
theorem M.addMk (g o j : Nat) : (⟨g, o, none⟩ : Addr).add j = ⟨g, o + j, none⟩ := by
  unfold Addr.add; split
  · next h => subst h; rfl
  · rfl

theorem M.cellLt {w : World} {a : Addr} {u : Value} (h : w.cell? a = some u) : a.block < w.heap.size := by
  rcases Nat.lt_or_ge a.block w.heap.size with hlt | hge
  · exact hlt
  · rw [World.cell?, Array.getElem?_eq_none hge] at h; simp at h

/-- The slice at A reads as the values xs, in a block of S. -/
def Rds (w : World) (S : Nat → Prop) (A : Option Addr) (xs : List Value) : Prop := ∀ j u, xs[j]? = some u → ∃ ad, A = some ad ∧ S ad.block ∧ w.cell? (ad.add j) = some u

section
variable {w w' : World} {S S' : Nat → Prop} {A : Option Addr} {xs : List Value}
theorem Rds.nil : Rds w S A [] := fun j u h => by simp at h
theorem Rds.keep (h : Rds w S A xs) (hk : ∀ b, S b → b < w.heap.size → w'.heap[b]? = w.heap[b]?) : Rds w' S A xs := fun j u hu => by
  obtain ⟨ad, rfl, hs, hc⟩ := h j u hu
  have hl := M.cellLt hc
  rw [M.addBlock] at hl
  exact ⟨ad, rfl, hs, (World.cell?_of_block (w := w) (by rw [M.addBlock]; exact hk _ hs hl)).trans hc⟩
theorem Rds.below {B : Nat} (h : Rds w S A xs) (hb : Below B w w') (hS : ∀ b, S b → b < w.heap.size → b < B) : Rds w' S A xs := h.keep fun b hs hl => hb.block b (hS b hs hl)
theorem Rds.new (h : Rds w S A xs) (hb : Below w.heap.size w w') : Rds w' S A xs := h.keep fun b _ hl => hb.block b hl
theorem Rds.grown {row : Option Nat} (h : Rds w S A xs) (hg : w.grownBy w' row) (hr : ∀ b, S b → b < w.heap.size → some b ≠ row) : Rds w' S A xs := h.keep fun b hs hl => hg.block b hl (hr b hs hl)
theorem Rds.alloc (h : Rds w S A xs) (o : Obj) : Rds (w.alloc o) S A xs := h.keep fun b _ hl => Below.heap_alloc w o b hl
theorem Rds.drewN (h : Rds w S A xs) (n : Nat) : Rds (w.drewN n) S A xs := h
theorem Rds.mono (h : Rds w S A xs) (hS : ∀ b, S b → S' b) : Rds w S' A xs := fun j u hu => by
  obtain ⟨ad, e, hs, hc⟩ := h j u hu
  exact ⟨ad, e, hS _ hs, hc⟩
theorem Rds.old (h : Rds w S A xs) : Rds w (fun b => S b ∧ b < w.heap.size) A xs := fun j u hu => by
  obtain ⟨ad, e, hs, hc⟩ := h j u hu
  have hl := M.cellLt hc
  rw [M.addBlock] at hl
  exact ⟨ad, e, ⟨hs, hl⟩, hc⟩
theorem Rds.at (h : Rds w S A xs) {j : Nat} (hj : j < xs.length) : ∃ ad, A = some ad ∧ S ad.block ∧ w.cell? (ad.add j) = some xs[j] := h j _ (List.getElem?_eq_getElem hj)
theorem Rds.take (h : Rds w S A xs) (k : Nat) : Rds w S A (xs.take k) := fun j u hu => by
  rw [List.getElem?_take] at hu
  split at hu
  · exact h j u hu
  · cases hu
/-- s[k:], the model's own address. -/
theorem Rds.cut {k c : Nat} (h : Rds w S A xs) (hc : xs.length ≤ c) : Rds w S (if c = k then A else A.map (·.add k)) (xs.drop k) := fun j u hu => by
  have hl : k + j < xs.length := by
    rcases Nat.lt_or_ge (k + j) xs.length with h1 | h1
    · exact h1
    · rw [List.getElem?_drop, List.getElem?_eq_none h1] at hu; cases hu
  rw [List.getElem?_drop] at hu
  obtain ⟨ad, rfl, hs, hce⟩ := h _ u hu
  rw [if_neg (by omega)]
  exact ⟨ad.add k, rfl, by rw [M.addBlock]; exact hs, by rw [M.addAdd]; exact hce⟩
/-- nil or an address: what the append's laws ask. -/
theorem Rds.addr {ad : Addr} (h : Rds w S (some ad) xs) : ∀ j u, xs[j]? = some u → w.cell? (ad.add j) = some u := fun j u hu => by
  obtain ⟨a', e, _, hc⟩ := h j u hu
  injection e with e
  subst e
  exact hc
end

/-- Block g is just these cells, none frozen. -/
def Blo (w : World) (g : Nat) (t : TypeId) (cs : Array Value) : Prop := w.heap[g]? = some (.cells cs t (0, 0))
section
variable {w w' : World} {g : Nat} {t : TypeId} {cs : Array Value}
theorem Blo.lt (h : Blo w g t cs) : g < w.heap.size := by
  rcases Nat.lt_or_ge g w.heap.size with hlt | hge
  · exact hlt
  · unfold Blo at h; rw [Array.getElem?_eq_none hge] at h; cases h
theorem Blo.cell (h : Blo w g t cs) (i : Nat) : w.cell? ⟨g, i, none⟩ = cs[i]? := cell_of_row w g i cs t (0, 0) h
theorem Blo.frozen (h : Blo w g t cs) (i : Nat) : w.frozen? ⟨g, i, none⟩ = false := by unfold Blo at h; simp [World.frozen?, h]
theorem Blo.keep (h : Blo w g t cs) (hk : w'.heap[g]? = w.heap[g]?) : Blo w' g t cs := hk.trans h
theorem Blo.made (w : World) (t : TypeId) (cs : Array Value) : Blo (w.alloc (.cells cs t)) w.heap.size t cs := heap_alloc_new w _
theorem Blo.alloc (h : Blo w g t cs) (o : Obj) : Blo (w.alloc o) g t cs := h.keep (Below.heap_alloc w o g h.lt)
theorem Blo.drewN (h : Blo w g t cs) (n : Nat) : Blo (w.drewN n) g t cs := h
theorem Blo.put (h : Blo w g t cs) (i : Nat) (u : Value) : Blo (w.setCell ⟨g, i, none⟩ u) g t (cs.setIfInBounds i u) := by
  unfold Blo at h ⊢
  simp [World.setCell, Array.getElem?_modify, h]
theorem Blo.other (h : Blo w g t cs) {p : Addr} (hp : g ≠ p.block) (u : Value) : Blo (w.setCell p u) g t cs := h.keep (Below.heap_setCell w p u g hp)
theorem Blo.below {B : Nat} (h : Blo w g t cs) (hb : Below B w w') (hg : g < B) : Blo w' g t cs := h.keep (hb.block g hg)
theorem Blo.new (h : Blo w g t cs) (hb : Below w.heap.size w w') : Blo w' g t cs := h.keep (hb.block g h.lt)
theorem Blo.grown {row : Option Nat} (h : Blo w g t cs) (hb : w.grownBy w' row) (hg : some g ≠ row) : Blo w' g t cs := h.keep (hb.block g h.lt hg)
theorem Blo.typeNe {g' : Nat} {t' : TypeId} {cs' : Array Value} (h : Blo w g t cs) (h' : Blo w g' t' cs') (hne : t ≠ t') : g ≠ g' := by
  rintro rfl
  unfold Blo at h h'
  rw [h] at h'
  injection h' with h'
  injection h' with _ ht
  exact hne ht
end

/-! ### only block g, and what is new, has turned -/
theorem gb_trans {a b c : World} {row : Option Nat} (h : a.grownBy b row) (k : b.grownBy c row) : a.grownBy c row :=
  ⟨k.os.trans h.os, k.tape.trans h.tape, k.output.trans h.output, Nat.le_trans h.size k.size, fun i hi hn => (k.block i (Nat.lt_of_lt_of_le hi h.size) hn).trans (h.block i hi hn)⟩
theorem gb_alloc {a w : World} {row : Option Nat} (h : a.grownBy w row) (o : Obj) : a.grownBy (w.alloc o) row :=
  ⟨h.os, h.tape, h.output, Nat.le_trans h.size (by simp), fun i hi hne => (Below.heap_alloc w o i (Nat.lt_of_lt_of_le hi h.size)).trans (h.block i hi hne)⟩
theorem gb_drewN {a w : World} {row : Option Nat} (h : a.grownBy w row) (n : Nat) : a.grownBy (w.drewN n) row := ⟨h.os, h.tape, h.output, h.size, h.block⟩
theorem gb_set {a w : World} {g : Nat} (h : a.grownBy w (some g)) {p : Addr} (hp : p.block = g ∨ a.heap.size ≤ p.block) (u : Value) : a.grownBy (w.setCell p u) (some g) :=
  ⟨h.os, h.tape, h.output, by simpa [World.setCell] using h.size, fun i hi hne => (Below.heap_setCell w p u i (by
    rintro rfl
    rcases hp with hp | hp
    · exact hne (by rw [hp])
    · omega)).trans (h.block i hi hne)⟩
theorem gb_below {a w : World} (h : Below a.heap.size a w) (row : Option Nat) : a.grownBy w row := ⟨h.os, h.tape, h.output, h.size, fun i hi _ => h.block i hi⟩
/-- A write to a row that is new to a is none to a. -/
theorem gb_new {a b c : World} {row row' : Option Nat} (h : a.grownBy b row) (k : b.grownBy c row') (hr : ∀ g, row' = some g → a.heap.size ≤ g) : a.grownBy c row :=
  ⟨k.os.trans h.os, k.tape.trans h.tape, k.output.trans h.output, Nat.le_trans h.size k.size, fun i hi hn => (k.block i (Nat.lt_of_lt_of_le hi h.size) (fun e => by have := hr i e.symm; omega)).trans (h.block i hi hn)⟩
theorem below_gb {a w : World} (h : a.grownBy w none) : Below a.heap.size a w := ⟨h.os, h.tape, h.output, h.size, fun i hi => h.block i hi (by simp)⟩
theorem below_gb' {B : Nat} {a w : World} {g : Nat} (h : a.grownBy w (some g)) (hB : B ≤ a.heap.size) (hg : B ≤ g) : Below B a w :=
  ⟨h.os, h.tape, h.output, h.size, fun i hi => h.block i (by omega) (by simp; omega)⟩
theorem below_drewN {B : Nat} {a w : World} (h : Below B a w) (n : Nat) : Below B a (w.drewN n) := ⟨h.os, h.tape, h.output, h.size, h.block⟩
theorem below_new {a b c : World} (h : Below a.heap.size a b) (k : Below b.heap.size b c) : Below a.heap.size a c := h.trans (k.mono h.size)

/-- w' is w behind some draws. -/
def Drew (w w' : World) : Prop := ∃ n, w' = w.drewN n
theorem Drew.refl (w : World) : Drew w w := ⟨0, rfl⟩
theorem Drew.more {w w' : World} (h : Drew w w') (n : Nat) : Drew w (w'.drewN n) := by
  obtain ⟨m, rfl⟩ := h
  exact ⟨m + n, World.drewN_drewN _ _ _⟩
theorem Drew.trans {a b c : World} (h : Drew a b) (k : Drew b c) : Drew a c := by
  obtain ⟨n, rfl⟩ := k
  exact h.more n
theorem Drew.heap {w w' : World} (h : Drew w w') : w'.heap = w.heap := by obtain ⟨n, rfl⟩ := h; rfl
theorem Drew.rds {w w' : World} (h : Drew w w') {S : Nat → Prop} {A : Option Addr} {xs : List Value} (k : Rds w S A xs) : Rds w' S A xs := by obtain ⟨n, rfl⟩ := h; exact k
theorem Drew.blo {w w' : World} (h : Drew w w') {g : Nat} {t : TypeId} {cs : Array Value} (k : Blo w g t cs) : Blo w' g t cs := by obtain ⟨n, rfl⟩ := h; exact k
theorem Drew.own {w w' : World} (h : Drew w w') {base : Nat} {t : TypeId} {v : Value} {n : Nat} {xs : List Value} (k : w.ownsRow base t 1 v n xs) : w'.ownsRow base t 1 v n xs := by obtain ⟨n, rfl⟩ := h; exact k
theorem Drew.gb {w w' : World} (h : Drew w w') (row : Option Nat) : w.grownBy w' row := by obtain ⟨n, rfl⟩ := h; exact gb_drewN (World.grownBy.refl w row) n
theorem Drew.below {w w' : World} (h : Drew w w') (B : Nat) : Below B w w' := by obtain ⟨n, rfl⟩ := h; exact below_drewN (Below.refl B w) n

/-! ### rows of the call's own -/
theorem own_form {w : World} {base : Nat} {t : TypeId} {v : Value} {n : Nat} {xs : List Value} (h : w.ownsRow base t 1 v n xs) :
    ∃ A c, v = .slice A n c ∧ n ≤ c ∧ (A = none → n = 0 ∧ c = 0) := by
  rcases h.2 with ⟨rfl, rfl⟩ | ⟨g, cap, cur, rfl, _, _, hn, _⟩
  · exact ⟨none, 0, rfl, Nat.le_refl _, fun _ => ⟨rfl, rfl⟩⟩
  · exact ⟨_, cap, rfl, hn, fun h => by cases h⟩
theorem own_len {w : World} {base : Nat} {t : TypeId} {v : Value} {n : Nat} {xs : List Value} (h : w.ownsRow base t 1 v n xs) : xs.length = n := by simpa using h.1
theorem own_rds {w : World} {base : Nat} {t : TypeId} {A : Option Addr} {n c : Nat} {xs : List Value} (h : w.ownsRow base t 1 (.slice A n c) n xs) : Rds w (fun b => base ≤ b ∧ (Value.slice A n c).ownBlock = some b) A xs := by
  intro j u hu
  rcases h.2 with ⟨e, rfl⟩ | ⟨g, cap, cur, e, hb, _, _, _⟩
  · have : xs = [] := List.eq_nil_of_length_eq_zero (by simpa using h.1)
    subst this; simp at hu
  · injection e with e1 e2 e3
    subst e1; subst e3
    exact ⟨_, rfl, ⟨hb, rfl⟩, h.cells (g := g) rfl j u hu⟩
theorem own_mono {w : World} {base base' : Nat} {t : TypeId} {v : Value} {n : Nat} {xs : List Value} (h : w.ownsRow base t 1 v n xs) (hb : base' ≤ base) : w.ownsRow base' t 1 v n xs := by
  obtain ⟨h1, h2⟩ := h
  refine ⟨h1, ?_⟩
  rcases h2 with h2 | ⟨g, cap, cur, e, hg, r⟩
  · exact .inl h2
  · exact .inr ⟨g, cap, cur, e, Nat.le_trans hb hg, r⟩
theorem own_drewN {w : World} {base : Nat} {t : TypeId} {v : Value} {n : Nat} {xs : List Value} (h : w.ownsRow base t 1 v n xs) (k : Nat) : (w.drewN k).ownsRow base t 1 v n xs := h
theorem own_keep {w w' : World} {base : Nat} {t : TypeId} {v : Value} {n : Nat} {xs : List Value} (h : w.ownsRow base t 1 v n xs) (hk : ∀ g, v.ownBlock = some g → g < w.heap.size → w'.heap[g]? = w.heap[g]?) : w'.ownsRow base t 1 v n xs := by
  have hlt := h.lt
  obtain ⟨h1, h2⟩ := h
  refine ⟨h1, ?_⟩
  rcases h2 with h2 | ⟨g, cap, cur, e, hg, hh, r⟩
  · exact .inl h2
  · subst e
    exact .inr ⟨g, cap, cur, rfl, hg, (hk g rfl (hlt g rfl).2).trans hh, r⟩

/-- Rows of unlike elements lie apart. -/
theorem own_apart {w : World} {b1 b2 : Nat} {t1 t2 : TypeId} {v v' : Value} {n n' : Nat} {xs xs' : List Value} (h : w.ownsRow b1 t1 1 v n xs) (h' : w.ownsRow b2 t2 1 v' n' xs') (hne : t1 ≠ t2) : v.ownBlock = none ∨ v.ownBlock ≠ v'.ownBlock := by
  rcases h.2 with ⟨rfl, _⟩ | ⟨g, cap, cur, rfl, _, hh, _⟩
  · exact .inl rfl
  · rcases h'.2 with ⟨rfl, _⟩ | ⟨g', cap', cur', rfl, _, hh', _⟩
    · exact .inr (by simp [Value.ownBlock])
    · exact .inr fun e => by
        injection e with e
        exact Blo.typeNe (t := t1) (t' := t2) hh hh' hne e
theorem own_blo {w : World} {b1 g : Nat} {t1 t2 : TypeId} {v : Value} {n : Nat} {xs : List Value} {cs : Array Value} (h : w.ownsRow b1 t1 1 v n xs) (h' : Blo w g t2 cs) (hne : t1 ≠ t2) : v.ownBlock ≠ some g := by
  rcases h.2 with ⟨rfl, _⟩ | ⟨k, cap, cur, rfl, _, hh, _⟩
  · simp [Value.ownBlock]
  · intro e
    injection e with e
    exact Blo.typeNe (t := t1) (t' := t2) hh h' hne e
def lenOf : Value → Nat | .slice _ n _ => n | _ => 0

theorem ownBlock_any (A : Option Addr) (n c n' c' : Nat) : (Value.slice A n c).ownBlock = (Value.slice A n' c').ownBlock := by cases A <;> rfl

/-- append onto a row of the call's own, from whatever slice that reads as news. -/
theorem run_app {P : Program} (w : World) (base : Nat) (t ty e : TypeId) (i : TypeInfo) (z : Value) (bytes : Nat) (ht : P.underlying t = some (.slice e)) (hi : P.info? e = some i) (hz : i.zero = some z)
    (hsize : i.size = 1) (hby : i.bytes = bytes) (hzs : z.cells.size = 1) (v : Value) (n : Nat) (xs : List Value) (hown : w.ownsRow base e 1 v n xs)
    (S : Nat → Prop) (A : Option Addr) (m c : Nat) (news : List Value) (hm : news.length = m) (hr : Rds w S A news) (h1 : ∀ u ∈ news, u.oneCell' = true)
    (h63 : n + m ≤ maxLen) (hbytes : (n + m) * bytes ≤ 140737488355328) (hbase : base ≤ w.heap.size) :
    ∃ v' w', (Builtin.append_ #[t, t] ty #[v, .slice A m c]).run P w = .ok v' w' ∧ w'.ownsRow base e 1 v' (n + m) (xs ++ news) ∧ w.grownBy w' v.ownBlock ∧
      (v'.ownBlock = v.ownBlock ∨ v'.ownBlock = some w.heap.size) := by
  rcases A with _ | ad
  · have hn : news = [] := by
      cases news with
      | nil => rfl
      | cons u us => obtain ⟨ad, e, _⟩ := hr 0 u rfl; cases e
    subst hn
    simp only [List.length_nil] at hm
    subst hm
    refine ⟨v, w, ?_, by simpa using hown, World.grownBy.refl w _, .inl rfl⟩
    rcases hown.2 with ⟨rfl, rfl⟩ | ⟨g, cap, cur, rfl, _, _, hnc, _⟩
    · simp [Builtin.append_, run_underlying ht, sizeOf, typeInfo, hi, Builtin.lenOf, Builtin.firstCells]
    · simp [Builtin.append_, run_underlying ht, sizeOf, typeInfo, hi, Builtin.lenOf, Builtin.firstCells, hnc, storeCells]
  · obtain ⟨v', w', hrun, h2, h3, _, h5⟩ := run_append_own_at (P := P) w base t ty e i z 1 bytes ht hi hz hsize hby hzs (by decide) v n xs hown ad m c news (by omega) hr.addr h1 h63 hbytes hbase
    exact ⟨v', w', hrun, h2, h3, h5⟩

theorem wpList_app {P : Program} (w : World) {ops : Array Oper} {rest : List Oper} {o : Oper} {a : Act} {Q : Exit → Act → World → Prop} (hgd : o.guard = none) (s x : Operand) (t : TypeId)
    (ho : o.op = .call { callee := .builtin .append, args := #[s, x], argTypes := #[t, t] })
    (base : Nat) (e : TypeId) (i : TypeInfo) (z : Value) (bytes : Nat) (ht : P.underlying t = some (.slice e)) (hi : P.info? e = some i) (hz : i.zero = some z)
    (hsize : i.size = 1) (hby : i.bytes = bytes) (hzs : z.cells.size = 1)
    (v : Value) (n : Nat) (xs : List Value) (hs : a.eval s = v) (hown : w.ownsRow base e 1 v n xs)
    (S : Nat → Prop) (A : Option Addr) (m c : Nat) (news : List Value) (hx : a.eval x = .slice A m c) (hm : news.length = m) (hr : Rds w S A news) (h1 : ∀ u ∈ news, u.oneCell' = true)
    (h63 : n + m ≤ maxLen) (hbytes : (n + m) * bytes ≤ 140737488355328) (hbase : base ≤ w.heap.size)
    (h : ∀ v' w', w'.ownsRow base e 1 v' (n + m) (xs ++ news) → w.grownBy w' v.ownBlock → (v'.ownBlock = v.ownBlock ∨ v'.ownBlock = some w.heap.size) → wpList P ops Q rest (a.put o.dst v') w') : wpList P ops Q (o :: rest) a w := by
  refine wpList_plain hgd fun K hK => ?_
  obtain ⟨v', w', hrun, h2, h3, h4⟩ := run_app (P := P) w base t o.type e i z bytes ht hi hz hsize hby hzs v n xs hown S A m c news hm hr h1 h63 hbytes hbase
  unfold Oper.wp execOp
  simp only [ho, resolve, invoke, builtin, Sem.run_bind, Sem.run_pure, Result.andThen_ok, List.map_toArray, List.map_cons, List.map_nil, hs, hx, hrun]
  exact hK _ _ (h v' w' h2 h3 h4)

/-- copy(dst, src) where src reads as xs and dst is as long, in a block that is known whole. -/
theorem run_cpy {P : Program} (w : World) (dT sT ty elem : TypeId) (hu : P.underlying dT = some (.slice elem)) (hsz : (P.info? elem).map (·.size) = some 1) (g off dCap : Nat) (A : Option Addr) (sCap : Nat)
    (cur : Array Value) (t : TypeId) (hg : Blo w g t cur) (S : Nat → Prop) (xs : List Value) (hr : Rds w S A xs) (hfit : off + xs.length ≤ cur.size) (h1 : ∀ v ∈ xs, v.oneCell' = true) :
    ∃ w', (Builtin.copy_ #[dT, sT] ty #[.slice (some ⟨g, off, none⟩) xs.length dCap, .slice A xs.length sCap]).run P w = .ok (goInt xs.length) w' ∧
      Blo w' g t (cur.toList.take off ++ xs ++ cur.toList.drop (off + xs.length)).toArray ∧ w.grownBy w' (some g) := by
  cases xs with
  | nil =>
    refine ⟨w, run_copy_none (P := P) w dT sT ty elem _ A _ _ _ _ hu hsz (by simp), by simpa using hg, World.grownBy.refl w _⟩
  | cons x xs =>
    obtain ⟨ad, rfl, _, _⟩ := hr 0 x rfl
    refine ⟨_, run_copy_row (P := P) w dT sT ty elem g off _ dCap ad _ sCap cur t (x :: xs) hu hsz hg (by simp) hr.addr hfit h1, setRow_heap w g cur _ t _ hg, ⟨rfl, rfl, rfl, by simp, fun k _ hk => setRow_other w g k _ (fun e => hk (by rw [e]))⟩⟩

/-! ### numbers in rows -/
abbrev u8s (l : List Int) : List Value := l.map (Value.int .u8)
abbrev i64s (l : List Int) : List Value := l.map (Value.int .i64)
def Byt (l : List Int) : Prop := ∀ b ∈ l, 0 ≤ b ∧ b < 256
theorem one_ints (k : IntKind) (l : List Int) : ∀ u ∈ l.map (Value.int k), u.oneCell' = true := by
  intro u hu
  obtain ⟨z, _, rfl⟩ := List.mem_map.1 hu
  rfl
theorem Rds.int {w : World} {S : Nat → Prop} {A : Option Addr} {k : IntKind} {l : List Int} (h : Rds w S A (l.map (Value.int k))) {j : Nat} (hj : j < l.length) : ∃ ad, A = some ad ∧ S ad.block ∧ w.cell? (ad.add j) = some (.int k l[j]) := by
  have := h.at (j := j) (by simpa using hj)
  simpa using this
theorem Byt.at {l : List Int} (h : Byt l) {j : Nat} (hj : j < l.length) : 0 ≤ l[j] ∧ l[j] < 256 := h _ (List.getElem_mem hj)
theorem Byt.app {l m : List Int} (h : Byt l) (k : Byt m) : Byt (l ++ m) := fun b hb => by
  rcases List.mem_append.1 hb with h1 | h1
  · exact h b h1
  · exact k b h1
theorem Byt.drop {l : List Int} (h : Byt l) (k : Nat) : Byt (l.drop k) := fun b hb => h b (List.mem_of_mem_drop hb)
theorem Byt.take {l : List Int} (h : Byt l) (k : Nat) : Byt (l.take k) := fun b hb => h b (List.mem_of_mem_take hb)

/-- What the frame tells of a slice of integers that came in (its own words, spelled here once more). -/
def RowIn (k : IntKind) (w : World) (a : Option Addr) (len cap : Nat) (zs : List Int) : Prop :=
  (a = none ∧ len = 0 ∧ cap = 0 ∧ zs = []) ∨
  ∃ x, a = some x ∧ len ≤ cap ∧ cap ≤ maxLen ∧ zs.length = cap ∧ (∀ i, i < zs.length → w.cell? (x.add i) = some (.int k (zs.getD i 0))) ∧ ∀ n ∈ zs, (Lit.int k n).wf = true
theorem RowIn.len {k : IntKind} {w : World} {a : Option Addr} {len cap : Nat} {zs : List Int} (h : RowIn k w a len cap zs) : (zs.take len).length = len ∧ len ≤ cap := by
  rcases h with ⟨_, rfl, rfl, rfl⟩ | ⟨x, _, h1, _, h2, _⟩
  · simp
  · simp; omega
theorem RowIn.rds {k : IntKind} {w : World} {a : Option Addr} {len cap : Nat} {zs : List Int} (h : RowIn k w a len cap zs) : Rds w (· < w.heap.size) a ((zs.take len).map (Value.int k)) := by
  have hT : Rds w (fun _ => True) a (zs.map (Value.int k)) := by
    rcases h with ⟨_, rfl, rfl, rfl⟩ | ⟨x, rfl, h1, _, h2, hc, _⟩
    · exact Rds.nil
    · intro j u hu
      have hj : j < zs.length := by
        rcases Nat.lt_or_ge j zs.length with h3 | h3
        · exact h3
        · rw [List.getElem?_eq_none (by simpa using h3)] at hu; cases hu
      refine ⟨x, rfl, trivial, ?_⟩
      rw [hc j hj]
      rw [List.getElem?_map] at hu
      rw [List.getD_eq_getElem?_getD]
      rw [List.getElem?_eq_getElem hj] at hu ⊢
      simpa using hu
  have := (hT.take len).old.mono (S' := (· < w.heap.size)) fun b hb => hb.2
  rwa [← List.map_take] at this
theorem RowIn.byt {w : World} {a : Option Addr} {len cap : Nat} {zs : List Int} (h : RowIn .u8 w a len cap zs) : Byt (zs.take len) := by
  intro b hb
  have hb' := List.mem_of_mem_take hb
  rcases h with ⟨_, _, _, rfl⟩ | ⟨x, _, _, _, _, _, hw⟩
  · simp at hb'
  · have := hw b hb'
    have e1 : IntKind.u8.min = 0 := by decide
    have e2 : IntKind.u8.max = 255 := by decide
    simp [Lit.wf, e1, e2] at this
    omega

theorem Try.rowU8 : (Try.prog.info? 5).map (fun i => (i.zero, i.size, i.bytes)) = some (some (.int .u8 0), 1, 1) := by kernel_rfl
theorem Try.rowI64 : (Try.prog.info? 3).map (fun i => (i.zero, i.size, i.bytes)) = some (some (.int .i64 0), 1, 8) := by kernel_rfl
/-- A row of bytes that is written over: its cells are bytes still, nothing else has turned. -/
def Soft (w wr : World) (A : Option Addr) (n : Nat) : Prop :=
  w.grownBy wr (Value.slice A n 0).ownBlock ∧ (0 < n → ∃ g cur, A = some ⟨g, 0, none⟩ ∧ Blo wr g 5 cur ∧ ∀ j, j < n → ∃ z, cur[j]? = some (.int .u8 z))
theorem Soft.start {w : World} {base : Nat} {A : Option Addr} {c : Nat} {l : List Int} (h : w.ownsRow base 5 1 (.slice A l.length c) l.length (u8s l)) : Soft w w A l.length := by
  refine ⟨World.grownBy.refl w _, fun hn => ?_⟩
  rcases h.2 with ⟨_, h0⟩ | ⟨g, cap, cur, e, _, hh, _, _, _, ht⟩
  · omega
  · injection e with e1 _ _
    subst e1
    refine ⟨g, cur, rfl, hh, fun j hj => ⟨l[j], ?_⟩⟩
    have h1 : (cur.toList.take (l.length * 1))[j]? = (u8s l)[j]? := by rw [ht]
    rw [List.getElem?_take, if_pos (by omega), List.getElem?_map, List.getElem?_eq_getElem hj] at h1
    simpa using h1
theorem Soft.at {w wr : World} {A : Option Addr} {n : Nat} (h : Soft w wr A n) {i : Nat} (hi : i < n) :
    ∃ g z, A = some ⟨g, 0, none⟩ ∧ wr.cell? ⟨g, i, none⟩ = some (.int .u8 z) ∧ wr.frozen? ⟨g, i, none⟩ = false ∧ ∀ y : Int, Soft w (wr.setCell ⟨g, i, none⟩ (.int .u8 y)) A n := by
  obtain ⟨hg, hc⟩ := h
  obtain ⟨g, cur, rfl, hb, hz⟩ := hc (by omega)
  obtain ⟨z, hz1⟩ := hz i hi
  refine ⟨g, z, rfl, (hb.cell i).trans hz1, hb.frozen i, fun y => ⟨gb_set (g := g) (p := ⟨g, i, none⟩) hg (.inl rfl) _, fun _ => ⟨g, _, rfl, hb.put i (.int .u8 y), fun j hj => ?_⟩⟩⟩
  rw [Array.getElem?_setIfInBounds]
  by_cases hij : i = j
  · subst hij
    rw [if_pos rfl]
    have : i < cur.size := by
      rcases Nat.lt_or_ge i cur.size with h3 | h3
      · exact h3
      · rw [Array.getElem?_eq_none h3] at hz1; cases hz1
    exact ⟨y, by rw [if_pos this]⟩
  · rw [if_neg hij]; exact hz j hj

/-- A variable of one cell. -/
theorem var_cell {w : World} {g : Nat} {t : TypeId} {v : Value} (h : Blo w g t #[v]) : w.cell? ⟨g, 0, none⟩ = some v ∧ w.frozen? ⟨g, 0, none⟩ = false := ⟨by simpa using h.cell 0, h.frozen 0⟩
/-- A row of one number, just made. -/
theorem one_rds (w : World) (k : IntKind) (x : Int) (t : TypeId) : Rds (w.alloc (.cells #[.int k x] t)) (fun _ => True) (some ⟨w.heap.size, 0, none⟩) [.int k x] := by
  intro j u hu
  match j, hu with
  | 0, hu =>
    simp at hu; subst hu
    exact ⟨_, rfl, trivial, by simp [M.addMk]⟩
/-- A call that leaves the world as it is, in a drawn region. -/
theorem quiet_same {P : Program} {f : FuncId} {args : Array Value} {w : World} {n : Nat} {v : Value}
    (h : Calls P f args (w.drewN n) fun e w' => e = .returned v ∧ w.drewN n = w') : Calls P f args (w.drewN n) fun e w'' => e = .returned v ∧ ∃ m, w'' = w.drewN m :=
  h.mono fun _ _ ⟨he, hm⟩ => ⟨he, n, hm.symm⟩

theorem ret_int {k : IntKind} {a b : Int} (h : a = b) : Ending.returned (.int k a) = .returned (.int k b) := by rw [h]
theorem ret_val {a b : Value} (h : a = b) : Ending.returned a = .returned b := by rw [h]
end Go.Proofs.Ytfllebfegngdhaa
end

section
namespace Go.Proofs.Ytfllebfegngdhaa
open Go.ChangeShapes Go.WideShapes Go.ChangeAt Go.RowKit Go.Deep

section
variable {H : Type} {enc : TypeId × Value → H} {P : Program} {w : World} {base : Nat}
theorem arg_ints {t e : TypeId} {k : IntKind} {v : Value} {d : DataW H} {p : List MemPlace} (ht : P.underlying t = some (.slice e)) (he : P.underlying e = some (.int k)) (hc : P.cellsOf e = 1)
    (ho : Value.okWide P w .any base t v) (hk : DataW.Trod enc P w 0 (fun _ => true) true t v d p) : ∃ a len cap zs, v = .slice a len cap ∧ RowIn k w a len cap zs := by
  obtain ⟨a, len, cap, rfl⟩ := okWide_slice ht ho
  obtain ⟨fuel, hf⟩ := hk
  refine ⟨a, len, cap, ?_⟩
  rcases open_ints ht he hc hf with ⟨hcs, _⟩ | ⟨x, l, c, zs, hcs, _, hl, hm, hz, _, hcell, hwz⟩
  · simp [Value.cells] at hcs
    obtain ⟨rfl, rfl, rfl⟩ := hcs
    exact ⟨[], rfl, .inl ⟨rfl, rfl, rfl, rfl⟩⟩
  · simp [Value.cells] at hcs
    obtain ⟨rfl, rfl, rfl⟩ := hcs
    exact ⟨zs, rfl, .inr ⟨_, rfl, hl, hm, by simpa using hz, hcell, hwz⟩⟩

/-- A field that is a row of integers. -/
theorem cell_ints {t e : TypeId} {k : IntKind} {v : Value} {fuel : Nat} {y : DataW H × List MemPlace} (ht : P.underlying t = some (.slice e)) (he : P.underlying e = some (.int k)) (hc : P.cellsOf e = 1)
    (hf : DataW.trod enc P w 0 (fun _ => true) true fuel t [v] = some y) : ∃ a len cap zs, v = .slice a len cap ∧ RowIn k w a len cap zs := by
  obtain ⟨d, p⟩ := y
  rcases open_ints ht he hc hf with ⟨hcs, _⟩ | ⟨x, l, c, zs, hcs, _, hl, hm, hz, _, hcell, hwz⟩
  · simp at hcs
    subst hcs
    exact ⟨none, 0, 0, [], rfl, .inl ⟨rfl, rfl, rfl, rfl⟩⟩
  · simp at hcs
    subst hcs
    exact ⟨some x, l, c, zs, rfl, .inr ⟨_, rfl, hl, hm, by simpa using hz, hcell, hwz⟩⟩
/-- A field that is an integer. -/
theorem cell_int {t : TypeId} {k : IntKind} {v : Value} {fuel : Nat} {y : DataW H × List MemPlace} (ht : P.underlying t = some (.int k))
    (hf : DataW.trod enc P w 0 (fun _ => true) true fuel t [v] = some y) : ∃ n, v = .int k n ∧ (Lit.int k n).wf = true := by
  obtain ⟨n, hn, _, hw⟩ := DataW.trod_int ht hf
  simp at hn
  exact ⟨n, hn, hw⟩
/-- An integer. -/
theorem arg_int {t : TypeId} {k : IntKind} {v : Value} {d : DataW H} {p : List MemPlace} (ht : P.underlying t = some (.int k))
    (ho : Value.okWide P w .any base t v) (hk : DataW.Trod enc P w 0 (fun _ => true) true t v d p) : ∃ n, v = .int k n ∧ (Lit.int k n).wf = true := by
  obtain ⟨m, rfl⟩ := okWide_int ht ho
  obtain ⟨fuel, hf⟩ := hk
  exact cell_int ht hf

/-- A slice of records, each of m cells. -/
def Recs (w : World) (S : Nat → Prop) (A : Option Addr) (m : Nat) (rows : List (List Value)) : Prop :=
  ∀ i r, rows[i]? = some r → ∃ ad, A = some ad ∧ S ad.block ∧ ∀ j u, r[j]? = some u → w.cell? (ad.add (i * m + j)) = some u

theorem Recs.keep {w w' : World} {S : Nat → Prop} {A : Option Addr} {m : Nat} {rows : List (List Value)} (h : Recs w S A m rows) (hk : ∀ b, S b → b < w.heap.size → w'.heap[b]? = w.heap[b]?) : Recs w' S A m rows := fun i r hr => by
  obtain ⟨ad, e, hs, hc⟩ := h i r hr
  refine ⟨ad, e, hs, fun j u hu => ?_⟩
  have h1 := hc j u hu
  have hl := M.cellLt h1
  rw [M.addBlock] at hl
  exact (World.cell?_of_block (w := w) (by rw [M.addBlock]; exact hk _ hs hl)).trans h1
theorem Recs.below {w w' : World} {S : Nat → Prop} {A : Option Addr} {m B : Nat} {rows : List (List Value)} (h : Recs w S A m rows) (hb : Below B w w') (hS : ∀ b, S b → b < w.heap.size → b < B) : Recs w' S A m rows := h.keep fun b hs hl => hb.block b (hS b hs hl)

/-- The walk's own spelling of a record's further cells. -/
theorem M.addOff (a : Addr) (i j : Nat) (hj : 0 < j) : a.add (i + j) = ⟨(a.add i).block, (a.add i).off + j, none⟩ := by
  unfold Addr.add
  by_cases hi : i = 0
  · subst hi; simp; omega
  · simp [hi]; omega

/-- A record of two numbers. -/
def rec2 (x : Int × Int) : List Value := [.int .i64 x.1, .int .i64 x.2]
theorem Recs.two {w : World} {S : Nat → Prop} {A : Option Addr} {l : List (Int × Int)} (h : Recs w S A 2 (l.map rec2)) {i : Nat} (hi : i < l.length) :
    ∃ ad, A = some ad ∧ S ad.block ∧ w.cell? (ad.add (i * 2)) = some (.int .i64 l[i].1) ∧ w.cell? ⟨(ad.add (i * 2)).block, (ad.add (i * 2)).off + 1, none⟩ = some (.int .i64 l[i].2) := by
  obtain ⟨ad, e, hs, hc⟩ := h i (rec2 l[i]) (by simp [hi])
  exact ⟨ad, e, hs, by simpa using hc 0 _ rfl, by rw [← M.addOff _ _ _ (by omega)]; exact hc 1 _ rfl⟩

theorem arg_pairs {t e : TypeId} {f0 f1 : Field} {v : Value} {d : DataW H} {p : List MemPlace} (ht : P.underlying t = some (.slice e)) (he : P.underlying e = some (.struct #[f0, f1]))
    (ce : P.cellsOf e = 2) (o0 : f0.offset = 0) (o1 : f1.offset = 1) (c0 : P.cellsOf f0.type = 1) (c1 : P.cellsOf f1.type = 1) (u0 : P.underlying f0.type = some (.int .i64)) (u1 : P.underlying f1.type = some (.int .i64))
    (ho : Value.okWide P w .any base t v) (hk : DataW.Trod enc P w 0 (fun _ => true) true t v d p) :
    ∃ a len cap, ∃ l : List (Int × Int), v = .slice a len cap ∧ l.length = len ∧ len ≤ cap ∧ cap ≤ maxLen ∧ Recs w (· < w.heap.size) a 2 (l.map rec2) := by
  obtain ⟨a, len, cap, rfl⟩ := okWide_slice ht ho
  obtain ⟨fuel, hf⟩ := hk
  refine ⟨a, len, cap, ?_⟩
  rcases open_slice_pairs ht he ce o0 o1 c0 c1 hf with ⟨hcs, _⟩ | ⟨x, ln, cp, m, n, V0, V1, D0, D1, P0, P1, hcs, _, hl, hm, hmm, _, hcell⟩
  · simp [Value.cells] at hcs
    obtain ⟨rfl, rfl, rfl⟩ := hcs
    exact ⟨[], rfl, rfl, Nat.le_refl _, by unfold maxLen; omega, fun i r hr => by simp at hr⟩
  · simp [Value.cells] at hcs
    obtain ⟨rfl, rfl, rfl⟩ := hcs
    refine ⟨(List.range len).map fun i => (intOf (V0 i), intOf (V1 i)), rfl, by simp, hl, hm, fun i r hr => ?_⟩
    have hi : i < len := by
      rcases Nat.lt_or_ge i len with h | h
      · exact h
      · rw [List.getElem?_eq_none (by simpa using h)] at hr; cases hr
    have hm' : len ≤ m := by rw [hmm]; split <;> omega
    obtain ⟨e0, e1, t0, t1⟩ := hcell i (by omega)
    obtain ⟨n0, q0, _, _⟩ := DataW.trod_int u0 t0
    obtain ⟨n1, q1, _, _⟩ := DataW.trod_int u1 t1
    simp at q0 q1
    rw [q0] at e0
    rw [q1] at e1
    simp [hi] at hr
    subst hr
    refine ⟨x, rfl, by have := M.cellLt e0; rwa [M.addBlock] at this, fun j u hu => ?_⟩
    match j, hu with
    | 0, hu => simp [rec2, q0, intOf] at hu; subst hu; simpa using e0
    | 1, hu => simp [rec2, q1, intOf] at hu; subst hu; exact e1
/-- Rows of rows of integers: a value for each row, and what it reads as. -/
theorem arg_rows {t e q : TypeId} {k : IntKind} {v : Value} {d : DataW H} {p : List MemPlace} (ht : P.underlying t = some (.slice e)) (he : P.underlying e = some (.slice q)) (hq : P.underlying q = some (.int k)) (ce : P.cellsOf e = 1) (cq : P.cellsOf q = 1)
    (ho : Value.okWide P w .any base t v) (hk : DataW.Trod enc P w 0 (fun _ => true) true t v d p) :
    ∃ a len cap, ∃ (vs : List Value) (bs : List (List Int)), v = .slice a len cap ∧ vs.length = len ∧ bs.length = len ∧ len ≤ cap ∧ cap ≤ maxLen ∧ Rds w (· < w.heap.size) a vs ∧
      ∀ (i : Nat) u b, vs[i]? = some u → bs[i]? = some b → ∃ A c, u = .slice A b.length c ∧ b.length ≤ c ∧ c ≤ maxLen ∧ Rds w (· < w.heap.size) A (b.map (Value.int k)) ∧ ∀ z ∈ b, (Lit.int k z).wf = true := by
  obtain ⟨a, len, cap, rfl⟩ := okWide_slice ht ho
  obtain ⟨fuel, hf⟩ := hk
  refine ⟨a, len, cap, ?_⟩
  rcases open_int_rows ht he hq ce cq hf with ⟨hcs, _⟩ | ⟨x, ln, cp, A, L, C, Z, hcs, _, hl, hm, _, hcell⟩
  · simp [Value.cells] at hcs
    obtain ⟨rfl, rfl, rfl⟩ := hcs
    exact ⟨[], [], rfl, rfl, rfl, Nat.le_refl _, by unfold maxLen; omega, Rds.nil, fun i u b h => by simp at h⟩
  · simp [Value.cells] at hcs
    obtain ⟨rfl, rfl, rfl⟩ := hcs
    refine ⟨(List.range len).map fun r => .slice (A r) (L r) (C r), (List.range len).map fun r => (Z r).take (L r), rfl, by simp, by simp, hl, hm, fun j u hu => ?_, fun i u b hu hb => ?_⟩
    · have hj : j < len := by
        rcases Nat.lt_or_ge j len with h | h
        · exact h
        · rw [List.getElem?_eq_none (by simpa using h)] at hu; cases hu
      have h1 := (hcell j (by omega)).1
      simp [hj] at hu
      subst hu
      exact ⟨x, rfl, by have := M.cellLt h1; rwa [M.addBlock] at this, h1⟩
    · have hj : i < len := by
        rcases Nat.lt_or_ge i len with h | h
        · exact h
        · rw [List.getElem?_eq_none (by simpa using h)] at hu; cases hu
      obtain ⟨_, h2, h3, h4, h5, h6, h7⟩ := hcell i (by omega)
      simp [hj] at hu hb
      subst hu; subst hb
      have hlen : ((Z i).take (L i)).length = L i := by simp; omega
      refine ⟨A i, C i, by rw [hlen], by rw [hlen]; exact h2, h3, fun j u hu => ?_, fun z hz => h5 z (List.mem_of_mem_take hz)⟩
      have hj2 : j < L i := by
        rcases Nat.lt_or_ge j (L i) with h | h
        · exact h
        · rw [List.getElem?_eq_none (by simp; omega)] at hu; cases hu
      cases hA : A i with
      | none => have := h6 hA; omega
      | some a' =>
        have h8 := (h7 a' hA).2 j (by omega)
        rw [List.getElem?_map, List.getElem?_take, if_pos hj2, List.getElem?_eq_getElem (by omega)] at hu
        simp at hu
        subst hu
        rw [List.getD_eq_getElem?_getD, List.getElem?_eq_getElem (by omega)] at h8
        exact ⟨a', rfl, by have := M.cellLt h8; rwa [M.addBlock] at this, h8⟩
end
theorem wf_u64 {n : Int} (h : (Lit.int .u64 n).wf = true) : ∃ m : Nat, n = (m : Int) ∧ m < 18446744073709551616 := by
  have e1 : IntKind.u64.min = 0 := by decide
  have e2 : IntKind.u64.max = 18446744073709551615 := by decide
  simp [Lit.wf, e1, e2] at h
  obtain ⟨m, rfl⟩ := Int.eq_ofNat_of_zero_le h.1
  exact ⟨m, rfl, by omega⟩
theorem wf_i64 {n : Int} (h : (Lit.int .i64 n).wf = true) : -9223372036854775808 ≤ n ∧ n < 9223372036854775808 := by
  have e1 : IntKind.i64.min = -9223372036854775808 := by decide
  have e2 : IntKind.i64.max = 9223372036854775807 := by decide
  simp [Lit.wf, e1, e2] at h
  omega
theorem wf_u8 {n : Int} (h : (Lit.int .u8 n).wf = true) : 0 ≤ n ∧ n < 256 := by
  have e1 : IntKind.u8.min = 0 := by decide
  have e2 : IntKind.u8.max = 255 := by decide
  simp [Lit.wf, e1, e2] at h
  omega
end Go.Proofs.Ytfllebfegngdhaa
end

section
namespace Go.Proofs.Ytfllebfegngdhaa
open Go.ChangeShapes Go.WideShapes Go.ChangeAt Go.RowKit

/-- append in a region that draws its order. -/
theorem step_app {P : Program} {w : World} {ops : Array Oper} {o : Oper} {a : Act} {K : Act → World → Prop} {Q : Exit → Act → World → Prop} {E : Prop} (hgd : o.guard = none) (s x : Operand) (t : TypeId)
    (ho : o.op = .call { callee := .builtin .append, args := #[s, x], argTypes := #[t, t] })
    (base : Nat) (e : TypeId) (i : TypeInfo) (z : Value) (bytes : Nat) (ht : P.underlying t = some (.slice e)) (hi : P.info? e = some i) (hz : i.zero = some z)
    (hsize : i.size = 1) (hby : i.bytes = bytes) (hzs : z.cells.size = 1)
    (v : Value) (n : Nat) (xs : List Value) (hs : a.eval s = v) (hown : w.ownsRow base e 1 v n xs)
    (S : Nat → Prop) (A : Option Addr) (m c : Nat) (news : List Value) (hx : a.eval x = .slice A m c) (hm : news.length = m) (hr : Rds w S A news) (h1 : ∀ u ∈ news, u.oneCell' = true)
    (h63 : n + m ≤ maxLen) (hbytes : (n + m) * bytes ≤ 140737488355328) (hbase : base ≤ w.heap.size)
    (h : ∀ v' w', w'.ownsRow base e 1 v' (n + m) (xs ++ news) → w.grownBy w' v.ownBlock → (v'.ownBlock = v.ownBlock ∨ v'.ownBlock = some w.heap.size) → K (a.put o.dst v') w') :
    if Region.wanted o (yielded ops a.tmps) = true then Oper.wp P o a w K Q else E := by
  have hw : Region.wanted o (yielded ops a.tmps) = true := by simp [Region.wanted, hgd]
  rw [if_pos hw]
  obtain ⟨v', w', hrun, h2, h3, h4⟩ := run_app (P := P) w base t o.type e i z bytes ht hi hz hsize hby hzs v n xs hown S A m c news hm hr h1 h63 hbytes hbase
  unfold Oper.wp execOp
  simp only [ho, resolve, invoke, builtin, Sem.run_bind, Sem.run_pure, Result.andThen_ok, List.map_toArray, List.map_cons, List.map_nil, hs, hx, hrun]
  exact h v' w' h2 h3 h4

theorem Try.sizeU8' : (Try.prog.info? 5).map (·.size) = some 1 := by kernel_rfl

/-- s[p:q] of whatever slice, its address by a name. -/
theorem run_cut {P : Program} (t e : TypeId) (ht : P.underlying t = some (.slice e)) (hs : (P.info? e).map (·.size) = some 1) (A : Option Addr) (n c p q : Nat) (h1 : p ≤ q) (h2 : q ≤ c) (W : World) :
    (Instr.slice t (.slice A n c) (some (.int .i64 (p : Int))) (some (.int .i64 (q : Int))) none).run P W = .ok (.slice (if c = p then A else A.map (·.add p)) (q - p) (c - p)) W := by
  have hel : P.elem t = e := by simp [Program.elem, ht]
  have hz : (sizeOf e).run P W = .ok 1 W := by
    cases hi : P.info? e with
    | none => rw [hi] at hs; cases hs
    | some i => rw [hi] at hs; simp at hs; simp [sizeOf, typeInfo, hi, hs]
  rw [run_slice_lh W t A n c (by rw [hel]; exact ht) .i64 .i64 _ _ (by omega) (by omega) (by omega), hel, hz]
  simp [sliced]
/-- s[p:] of whatever slice. -/
theorem run_from {P : Program} (t e : TypeId) (ht : P.underlying t = some (.slice e)) (hs : (P.info? e).map (·.size) = some 1) (A : Option Addr) (n c p : Nat) (h1 : p ≤ n) (W : World) :
    (Instr.slice t (.slice A n c) (some (.int .i64 (p : Int))) none none).run P W = .ok (.slice (if c = p then A else A.map (·.add p)) (n - p) (c - p)) W := by
  have hel : P.elem t = e := by simp [Program.elem, ht]
  have hz : (sizeOf e).run P W = .ok 1 W := by
    cases hi : P.info? e with
    | none => rw [hi] at hs; cases hs
    | some i => rw [hi] at hs; simp at hs; simp [sizeOf, typeInfo, hi, hs]
  rw [run_slice_l W t A n c (by rw [hel]; exact ht) .i64 _ (by omega) (by omega), hel, hz]
  simp [sliced]
/-- append onto an empty literal: what comes reads as what was appended; nothing that was there has turned. -/
theorem run_app0 {P : Program} (w : World) (t ty e : TypeId) (i : TypeInfo) (z : Value) (bytes : Nat) (ht : P.underlying t = some (.slice e)) (hi : P.info? e = some i) (hz : i.zero = some z)
    (hsize : i.size = 1) (hby : i.bytes = bytes) (hzs : z.cells.size = 1) (p : Addr) (S : Nat → Prop) (A : Option Addr) (m c : Nat) (news : List Value) (hm : news.length = m) (hr : Rds w S A news) (h1 : ∀ u ∈ news, u.oneCell' = true)
    (h63 : m ≤ maxLen) (hbytes : m * bytes ≤ 140737488355328) :
    ∃ A' c' w', (Builtin.append_ #[t, t] ty #[.slice (some p) 0 0, .slice A m c]).run P w = .ok (.slice A' m c') w' ∧ m ≤ c' ∧ (news = [] ∨ w'.ownsRow 0 e 1 (.slice A' m c') m news) ∧ Below w.heap.size w w' := by
  rcases Nat.eq_zero_or_pos m with rfl | hpos
  · have : news = [] := List.eq_nil_of_length_eq_zero hm
    subst this
    refine ⟨some p, 0, w, ?_, Nat.le_refl _, .inl rfl, Below.refl _ _⟩
    cases A <;> simp [Builtin.append_, run_underlying ht, sizeOf, typeInfo, hi, Builtin.lenOf, Builtin.firstCells, storeCells, loadCells, loadCellsFrom]
  · obtain ⟨v', w', hrun, h2, h3, h4⟩ := run_app (P := P) w w.heap.size t ty e i z bytes ht hi hz hsize hby hzs (.slice none 0 0) 0 [] (World.ownsRow_nil _ _ _ _) S A m c news hm hr h1 (by omega) (by simpa using hbytes) (Nat.le_refl _)
    obtain ⟨A', c', rfl, hc, _⟩ := own_form h2
    simp only [Nat.zero_add, List.nil_append] at h2 hrun hc
    refine ⟨A', c', w', ?_, hc, .inr (own_mono h2 (Nat.zero_le _)), below_gb h3⟩
    rw [← hrun]
    have hn : Builtin.nextslicecap m 0 = m := by unfold Builtin.nextslicecap; simp; omega
    have f1 : ¬ 281474976710656 < m * i.bytes := by rw [hby]; omega
    have f2 : ¬ (9223372036854775807 : Int) < (m : Int) := by unfold maxLen at h63; omega
    have f3 : ¬ m = 0 := by omega
    cases A <;> simp [Builtin.append_, run_underlying ht, sizeOf, typeInfo, hi, Builtin.lenOf, Builtin.firstCells, storeCells, loadCells, loadCellsFrom, hn, f1, f2, f3]
/-- The same in a region that draws its order. -/
theorem step_app0 {P : Program} {w : World} {ops : Array Oper} {o : Oper} {a : Act} {K : Act → World → Prop} {Q : Exit → Act → World → Prop} {E : Prop} (hgd : o.guard = none) (s x : Operand) (t : TypeId)
    (ho : o.op = .call { callee := .builtin .append, args := #[s, x], argTypes := #[t, t] })
    (e : TypeId) (i : TypeInfo) (z : Value) (bytes : Nat) (ht : P.underlying t = some (.slice e)) (hi : P.info? e = some i) (hz : i.zero = some z)
    (hsize : i.size = 1) (hby : i.bytes = bytes) (hzs : z.cells.size = 1) (p : Addr) (hs : a.eval s = .slice (some p) 0 0)
    (S : Nat → Prop) (A : Option Addr) (m c : Nat) (news : List Value) (hx : a.eval x = .slice A m c) (hm : news.length = m) (hr : Rds w S A news) (h1 : ∀ u ∈ news, u.oneCell' = true)
    (h63 : m ≤ maxLen) (hbytes : m * bytes ≤ 140737488355328)
    (h : ∀ A' c' w', m ≤ c' → (news = [] ∨ w'.ownsRow 0 e 1 (.slice A' m c') m news) → Below w.heap.size w w' → K (a.put o.dst (.slice A' m c')) w') :
    if Region.wanted o (yielded ops a.tmps) = true then Oper.wp P o a w K Q else E := by
  have hw : Region.wanted o (yielded ops a.tmps) = true := by simp [Region.wanted, hgd]
  rw [if_pos hw]
  obtain ⟨A', c', w', hrun, h2, h3, h4⟩ := run_app0 (P := P) w t o.type e i z bytes ht hi hz hsize hby hzs p S A m c news hm hr h1 h63 hbytes
  unfold Oper.wp execOp
  simp only [ho, resolve, invoke, builtin, Sem.run_bind, Sem.run_pure, Result.andThen_ok, List.map_toArray, List.map_cons, List.map_nil, hs, hx, hrun]
  exact h A' c' w' h2 h3 h4
end Go.Proofs.Ytfllebfegngdhaa
end

section
namespace Go.Proofs.Ytfllebfegngdhaa
set_option linter.unusedVariables false
set_option linter.unusedSimpArgs false
open Go.ChangeShapes Go.WideShapes Go.ChangeAt Go.RowKit

theorem ret_bool {a b : Bool} (h : a = b) : Ending.returned (.bool a) = .returned (.bool b) := by rw [h]
theorem b_alloc (w : World) (o : Obj) : Below w.heap.size w (w.alloc o) := (Below.refl _ _).alloc (Nat.le_refl _) o
theorem b_alloc2 (w : World) (o o' : Obj) : Below w.heap.size w ((w.alloc o).alloc o') := (b_alloc w o).alloc (b_alloc w o).size o'
theorem Try.cellsInt : Try.prog.cellsOf 3 = 1 := by kernel_rfl
section
variable {H : Type} {enc : TypeId × Value → H} {w : World} {base : Nat}
theorem one_int {m : Nat} {v : Value} {y : DataW H × List MemPlace} (h : DataW.trod enc Try.prog w 0 (fun _ => true) true m 3 [v] = some y) : ∃ n, v = .int .i64 n := by
  obtain ⟨n, q, _, _⟩ := DataW.trod_int Try.underlying3 h
  simp at q
  exact ⟨n, q⟩
end
end Go.Proofs.Ytfllebfegngdhaa
end
