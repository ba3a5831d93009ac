/- Layer 13: a disk as plain mathematics; rows of units that wait; the document's disk in memory. -/
import Derived.Test.YtfllebfegngdhaaNby
namespace Go.Proofs.Ytfllebfegngdhaa
set_option linter.unusedVariables false
set_option linter.unusedSimpArgs false
open Go.ChangeShapes Go.WideShapes Go.ChangeAt Go.RowKit Go.Deep

/-- A unit that waits: a byte, or a swap. -/
inductive Dk.U | b (c : Int) | s (xs : List Int)
def Dk.app (out : List Int) : Dk.U → List Int | .b c => out ++ [c] | .s xs => xs
/-- The bytes behind these units. -/
def Dk.aft (L : List Int) (us : List Dk.U) : List Int := us.foldl Dk.app L
theorem Dk.aft_nil (L : List Int) : Dk.aft L [] = L := rfl
theorem Dk.aft_app (L : List Int) (us vs : List Dk.U) : Dk.aft L (us ++ vs) = Dk.aft (Dk.aft L us) vs := by unfold Dk.aft; rw [List.foldl_append]
theorem Dk.aft_bytes (L xs : List Int) : Dk.aft L (xs.map .b) = L ++ xs := by
  induction xs generalizing L with
  | nil => simp [Dk.aft]
  | cons x xs ih =>
    show Dk.aft (L ++ [x]) (xs.map .b) = _
    rw [ih]; simp
theorem Dk.aft_snoc (L : List Int) (us : List Dk.U) {n : Nat} (h : n < us.length) : Dk.aft L (us.take (n + 1)) = Dk.app (Dk.aft L (us.take n)) us[n] := by
  rw [List.take_succ_eq_append_getElem h, Dk.aft_app]
  rfl
/-- What may be on a disk of this size, along all that waits. -/
structure Dk.Ok (Z : Int) (L : List Int) (us : List Dk.U) : Prop where
  lo : 1 ≤ Z
  hi : Z ≤ 16384
  all : ∀ n, ((Dk.aft L (us.take n)).length : Int) ≤ Z
theorem Dk.Ok.last {Z : Int} {L : List Int} {us : List Dk.U} (h : Dk.Ok Z L us) : ((Dk.aft L us).length : Int) ≤ Z := by
  have := h.all us.length
  rwa [List.take_length] at this
theorem Dk.Ok.first {Z : Int} {L : List Int} {us : List Dk.U} (h : Dk.Ok Z L us) : (L.length : Int) ≤ Z := by
  have := h.all 0
  simpa [Dk.aft] using this
theorem Dk.Ok.bytes {Z : Int} {L : List Int} {us : List Dk.U} (h : Dk.Ok Z L us) (xs : List Int) (hx : ((Dk.aft L us).length : Int) + xs.length ≤ Z) : Dk.Ok Z L (us ++ xs.map .b) := by
  refine ⟨h.lo, h.hi, fun n => ?_⟩
  rcases Nat.lt_or_ge us.length n with h1 | h1
  · rw [List.take_append, List.take_of_length_le (by omega), Dk.aft_app, ← List.map_take, Dk.aft_bytes]
    simp only [List.length_append, List.length_take]
    omega
  · rw [List.take_append_of_le_length h1]
    exact h.all n
theorem Dk.Ok.swap {Z : Int} {L : List Int} {us : List Dk.U} (h : Dk.Ok Z L us) (xs : List Int) (hx : (xs.length : Int) ≤ Z) : Dk.Ok Z L (us ++ [.s xs]) := by
  refine ⟨h.lo, h.hi, fun n => ?_⟩
  rcases Nat.lt_or_ge us.length n with h1 | h1
  · rw [List.take_of_length_le (by simp; omega), Dk.aft_app]
    exact hx
  · rw [List.take_append_of_le_length h1]
    exact h.all n
theorem Dk.Ok.crash {Z : Int} {L : List Int} {us : List Dk.U} (h : Dk.Ok Z L us) (n : Nat) : Dk.Ok Z (Dk.aft L (us.take n)) [] :=
  ⟨h.lo, h.hi, fun k => by simpa [Dk.aft] using h.all n⟩
theorem Dk.Ok.new {Z : Int} (h1 : 1 ≤ Z) (h2 : Z ≤ 16384) : Dk.Ok Z [] [] := ⟨h1, h2, fun n => by simp [Dk.aft]; omega⟩
/-- How many units a Crash(keep) does. -/
def Dk.cut (keep : Int) (n : Nat) : Nat := (max 0 (min keep (n : Int))).toNat
theorem Dk.cut_le (keep : Int) (n : Nat) : Dk.cut keep n ≤ n := by unfold Dk.cut; omega
theorem Dk.cut_int (keep : Int) (n : Nat) : ((Dk.cut keep n : Nat) : Int) = max 0 (min keep (n : Int)) := by unfold Dk.cut; omega

/-- All but the blocks of fp, and what is new, is as it was. -/
structure Kp (fp : Nat → Prop) (w w' : World) : Prop where
  os : w'.os = w.os
  tape : w'.tape = w.tape
  output : w'.output = w.output
  size : w.heap.size ≤ w'.heap.size
  block : ∀ i, i < w.heap.size → ¬ fp i → w'.heap[i]? = w.heap[i]?
section
variable {fp fq : Nat → Prop} {w w1 w' : World}
theorem Kp.refl (fp : Nat → Prop) (w : World) : Kp fp w w := ⟨rfl, rfl, rfl, Nat.le_refl _, fun _ _ _ => rfl⟩
theorem Kp.of (h : Below w.heap.size w w') : Kp fp w w' := ⟨h.os, h.tape, h.output, h.size, fun i hi _ => h.block i hi⟩
theorem Kp.gb {row : Option Nat} (h : w.grownBy w' row) (hr : ∀ k, row = some k → fp k ∨ w.heap.size ≤ k) : Kp fp w w' :=
  ⟨h.os, h.tape, h.output, h.size, fun i hi hn => h.block i hi fun e => (hr i e.symm).elim hn fun h => by omega⟩
theorem Kp.trans (h : Kp fp w w1) (k : Kp fq w1 w') (hq : ∀ b, fq b → fp b ∨ w.heap.size ≤ b) : Kp fp w w' :=
  ⟨k.os.trans h.os, k.tape.trans h.tape, k.output.trans h.output, Nat.le_trans h.size k.size, fun i hi hn => (k.block i (Nat.lt_of_lt_of_le hi h.size) fun hf => (hq i hf).elim hn fun h => by omega).trans (h.block i hi hn)⟩
theorem Kp.more (h : Kp fp w w') (hq : ∀ b, fp b → fq b ∨ w.heap.size ≤ b) : Kp fq w w' :=
  ⟨h.os, h.tape, h.output, h.size, fun i hi hn => h.block i hi fun hf => (hq i hf).elim hn fun h => by omega⟩
theorem Kp.below {B : Nat} (h : Kp fp w w') (hB : B ≤ w.heap.size) (hf : ∀ b, fp b → b < w.heap.size → B ≤ b) : Below B w w' :=
  ⟨h.os, h.tape, h.output, h.size, fun i hi => h.block i (by omega) fun hp => by have := hf i hp (by omega); omega⟩
theorem Kp.rds {S : Nat → Prop} {A : Option Addr} {xs : List Value} (k : Kp fp w w') (h : Rds w S A xs) (hS : ∀ b, S b → b < w.heap.size → ¬ fp b) : Rds w' S A xs := h.keep fun b hs hl => k.block b hl (hS b hs hl)
theorem Kp.blo {g : Nat} {t : TypeId} {cs : Array Value} (k : Kp fp w w') (h : Blo w g t cs) (hg : ¬ fp g) : Blo w' g t cs := h.keep (k.block g h.lt hg)
theorem Kp.drewN (h : Kp fp w w') (n : Nat) : Kp fp w (w'.drewN n) := ⟨h.os, h.tape, h.output, h.size, h.block⟩
end

/-- A row of the call's own: its block bears its element's type. -/
theorem own_typed {w : World} {base k n g : Nat} {t : TypeId} {v : Value} {xs : List Value} (h : w.ownsRow base t k v n xs) (e : v.ownBlock = some g) : ∃ cs, Blo w g t cs := by
  rcases h.2 with ⟨rfl, _⟩ | ⟨g', cap, cur, rfl, _, hh, _⟩
  · cases e
  · injection e with e
    subst e
    exact ⟨cur, hh⟩
theorem own_keepK {w w' : World} {base k : Nat} {t : TypeId} {v : Value} {n : Nat} {xs : List Value} (h : w.ownsRow base t k v n xs) (hk : ∀ g, v.ownBlock = some g → g < w.heap.size → w'.heap[g]? = w.heap[g]?) : w'.ownsRow base t k v n xs := by
  have hlt := h.lt
  obtain ⟨h1, h2⟩ := h
  refine ⟨h1, ?_⟩
  rcases h2 with h2 | ⟨g, cap, cur, e, hg, hh, r⟩
  · exact .inl h2
  · subst e
    exact .inr ⟨g, cap, cur, rfl, hg, (hk g rfl (hlt g rfl).2).trans hh, r⟩
theorem own_monoK {w : World} {base base' k : Nat} {t : TypeId} {v : Value} {n : Nat} {xs : List Value} (h : w.ownsRow base t k v n xs) (hb : base' ≤ base) : w.ownsRow base' t k v n xs := by
  obtain ⟨h1, h2⟩ := h
  refine ⟨h1, ?_⟩
  rcases h2 with h2 | ⟨g, cap, cur, e, hg, r⟩
  · exact .inl h2
  · exact .inr ⟨g, cap, cur, e, Nat.le_trans hb hg, r⟩

/-- A row of bytes of its own, in a block of fp. -/
structure ByR (w : World) (fp : Nat → Prop) (v : Value) (xs : List Int) : Prop where
  own : w.ownsRow 0 5 1 v xs.length (u8s xs)
  inn : ∀ b, v.ownBlock = some b → fp b
section
variable {fp fq : Nat → Prop} {w w' : World} {v : Value} {xs : List Int}
theorem ByR.nil (w : World) (fp : Nat → Prop) : ByR w fp (.slice none 0 0) [] := ⟨World.ownsRow_nil _ _ _ _, fun b e => by cases e⟩
theorem ByR.keep (h : ByR w fp v xs) (hk : ∀ b, fp b → b < w.heap.size → w'.heap[b]? = w.heap[b]?) : ByR w' fp v xs := ⟨own_keepK h.own fun g e hl => hk g (h.inn g e) hl, h.inn⟩
theorem ByR.keepT (h : ByR w fp v xs) (hk : ∀ b cs, fp b → Blo w b 5 cs → w'.heap[b]? = w.heap[b]?) : ByR w' fp v xs := ⟨own_keepK h.own fun g e hl => by
  obtain ⟨cs, hc⟩ := own_typed h.own e
  exact hk g cs (h.inn g e) hc, h.inn⟩
theorem ByR.mono (h : ByR w fp v xs) (hf : ∀ b, fp b → b < w.heap.size → fq b) : ByR w fq v xs := ⟨h.own, fun b e => hf b (h.inn b e) (World.ownsRow.lt h.own b e).2⟩
theorem ByR.form (h : ByR w fp v xs) : ∃ A c, v = .slice A xs.length c ∧ xs.length ≤ c ∧ Rds w fp A (u8s xs) := by
  obtain ⟨A, c, rfl, h1, _⟩ := own_form h.own
  refine ⟨A, c, rfl, h1, (own_rds (own_mono h.own (Nat.zero_le _))).mono fun b hb => h.inn b hb.2⟩
end

theorem ByR.rds {fp : Nat → Prop} {w : World} {A : Option Addr} {n c : Nat} {xs : List Int} (h : ByR w fp (.slice A n c) xs) : Rds w fp A (u8s xs) := by
  obtain ⟨A', c', e, _, hr⟩ := h.form
  injection e with e1 e2 e3
  subst e1
  exact hr

/-- A unit as it stands in a row. -/
structure Dk.W where
  c : Int
  sw : Bool
  v : Value
  xs : List Int
def Dk.W.u (x : Dk.W) : Dk.U := if x.sw then .s x.xs else .b x.c
def Dk.W.cells (x : Dk.W) : List Value := [.int .u8 x.c, .bool x.sw, x.v]
def Dk.wcs : List Dk.W → List Value | [] => [] | x :: l => .int .u8 x.c :: .bool x.sw :: x.v :: Dk.wcs l
theorem Dk.wcs_len : ∀ l : List Dk.W, (Dk.wcs l).length = l.length * 3
  | [] => rfl
  | x :: l => by simp only [Dk.wcs, List.length_cons, Dk.wcs_len l]; omega
theorem Dk.wcs_app : ∀ l m : List Dk.W, Dk.wcs (l ++ m) = Dk.wcs l ++ Dk.wcs m
  | [], m => rfl
  | x :: l, m => by simp only [List.cons_append, Dk.wcs, Dk.wcs_app l m]
theorem Dk.wcs_at : ∀ (l : List Dk.W) (i : Nat) (hi : i < l.length), (Dk.wcs l)[i * 3]? = some (.int .u8 l[i].c) ∧ (Dk.wcs l)[i * 3 + 1]? = some (.bool l[i].sw) ∧ (Dk.wcs l)[i * 3 + 2]? = some l[i].v
  | [], i, hi => by simp at hi
  | x :: l, 0, hi => by simp [Dk.wcs]
  | x :: l, i + 1, hi => by
    have := Dk.wcs_at l i (by simpa using hi)
    have e : (i + 1) * 3 = i * 3 + 1 + 1 + 1 := by omega
    simp only [Dk.wcs, e, List.getElem?_cons_succ, List.getElem_cons_succ]
    exact this
def Dk.Slc (v : Value) : Prop := ∃ A n c, v = .slice A n c
theorem Dk.wcs_one : ∀ (l : List Dk.W) (h : ∀ x ∈ l, Dk.Slc x.v), ∀ u ∈ Dk.wcs l, u.oneCell' = true
  | [], _, u, hu => by simp [Dk.wcs] at hu
  | x :: l, h, u, hu => by
    simp only [Dk.wcs, List.mem_cons] at hu
    rcases hu with rfl | rfl | rfl | hu
    · rfl
    · rfl
    · obtain ⟨A, n, c, e⟩ := h x (List.mem_cons_self ..)
      rw [e]; rfl
    · exact Dk.wcs_one l (fun x hx => h x (List.mem_cons_of_mem _ hx)) u hu

theorem Try.rowDkW : (Try.prog.info? 79).map (fun i => (i.zero, i.size, i.bytes)) = some (some (.agg #[.int .u8 0, .bool false, .slice none 0 0]), 3, 32) := by kernel_rfl
/-- A row of units of the call's own. -/
def WRow (w : World) (B : Nat) (v : Value) (l : List Dk.W) : Prop := w.ownsRow B 79 3 v l.length (Dk.wcs l)
theorem WRow.form {w : World} {B : Nat} {v : Value} {l : List Dk.W} (h : WRow w B v l) : ∃ A c, v = .slice A l.length c ∧ l.length ≤ c ∧ Rds w (fun b => B ≤ b ∧ v.ownBlock = some b) A (Dk.wcs l) := by
  rcases h.2 with ⟨rfl, h0⟩ | ⟨g, cap, cur, rfl, hB, hh, hn, hm, _⟩
  · have : l = [] := List.eq_nil_of_length_eq_zero h0
    subst this
    exact ⟨none, 0, rfl, Nat.le_refl _, Rds.nil⟩
  · exact ⟨_, cap, rfl, hn, fun j u hu => ⟨_, rfl, ⟨hB, rfl⟩, World.ownsRow.cells h (g := g) rfl j u hu⟩⟩
/-- The unit at i of a slice that reads as these units. -/
theorem Rds.dkw {w : World} {S : Nat → Prop} {A : Option Addr} {l : List Dk.W} (h : Rds w S A (Dk.wcs l)) {i : Nat} (hi : i < l.length) :
    ∃ ad, A = some ad ∧ S ad.block ∧ w.cell? (ad.add (i * 3)) = some (.int .u8 l[i].c) ∧ w.cell? ⟨(ad.add (i * 3)).block, (ad.add (i * 3)).off + 1, none⟩ = some (.bool l[i].sw) ∧ w.cell? ⟨(ad.add (i * 3)).block, (ad.add (i * 3)).off + 2, none⟩ = some l[i].v := by
  obtain ⟨h1, h2, h3⟩ := Dk.wcs_at l i hi
  obtain ⟨ad, rfl, hs, hc⟩ := h _ _ h1
  obtain ⟨ad', e, _, hc'⟩ := h _ _ h2
  injection e with e
  subst e
  obtain ⟨ad', e, _, hc''⟩ := h _ _ h3
  injection e with e
  subst e
  exact ⟨_, rfl, hs, hc, by rw [← M.addOff _ _ _ (by omega)]; exact hc', by rw [← M.addOff _ _ _ (by omega)]; exact hc''⟩
/-- append onto a row of units of the call's own. -/
theorem run_wapp (w : World) (B : Nat) (ty : TypeId) (v : Value) (l : List Dk.W) (hown : WRow w B v l)
    (S : Nat → Prop) (ad : Addr) (m c : Nat) (news : List Dk.W) (hm : news.length = m) (hr : Rds w S (some ad) (Dk.wcs news)) (h1 : ∀ x ∈ news, Dk.Slc x.v) (h63 : l.length + m ≤ 1000000000) (hB : B ≤ w.heap.size) :
    ∃ v' w', (Builtin.append_ #[64, 64] ty #[v, .slice (some ad) m c]).run Try.prog w = .ok v' w' ∧ WRow w' B v' (l ++ news) ∧ w.grownBy w' v.ownBlock ∧ (v'.ownBlock = v.ownBlock ∨ v'.ownBlock = some w.heap.size) := by
  obtain ⟨i0, hi, hz0, hz1, hz2⟩ := info_parts Try.rowDkW
  subst hm
  obtain ⟨v', w', hrun, h2, h3, _, h5⟩ := run_append_own_at (P := Try.prog) w B 64 ty 79 i0 _ 3 32 Try.underlying64 hi hz0 hz1 hz2 rfl (by decide) v l.length (Dk.wcs l) hown ad news.length c (Dk.wcs news) (Dk.wcs_len _) hr.addr (Dk.wcs_one _ h1) (by unfold maxLen; omega) (by omega) hB
  refine ⟨v', w', hrun, ?_, h3, h5⟩
  unfold WRow
  rw [Dk.wcs_app, List.length_append]
  exact h2
theorem wpList_wapp (w : World) {ops : Array Oper} {rest : List Oper} {o : Oper} {a : Act} {Q : Exit → Act → World → Prop} (hgd : o.guard = none) (s x : Operand)
    (ho : o.op = .call { callee := .builtin .append, args := #[s, x], argTypes := #[64, 64] })
    (B : Nat) (v : Value) (l : List Dk.W) (hs : a.eval s = v) (hown : WRow w B v l)
    (S : Nat → Prop) (ad : Addr) (m c : Nat) (news : List Dk.W) (hx : a.eval x = .slice (some ad) m c) (hm : news.length = m) (hr : Rds w S (some ad) (Dk.wcs news)) (h1 : ∀ x ∈ news, Dk.Slc x.v) (h63 : l.length + m ≤ 1000000000) (hB : B ≤ w.heap.size)
    (h : ∀ v' w', WRow w' B v' (l ++ news) → w.grownBy w' v.ownBlock → (v'.ownBlock = v.ownBlock ∨ v'.ownBlock = some w.heap.size) → wpList Try.prog ops Q rest (a.put o.dst v') w') : wpList Try.prog ops Q (o :: rest) a w := by
  refine wpList_plain hgd fun K hK => ?_
  obtain ⟨v', w', hrun, h2, h3, h4⟩ := run_wapp w B o.type v l hown S ad m c news hm hr h1 h63 hB
  unfold Oper.wp execOp
  simp only [ho, resolve, invoke, builtin, Sem.run_bind, Sem.run_pure, Result.andThen_ok, List.map_toArray, List.map_cons, List.map_nil, hs, hx, hrun]
  exact hK _ _ (h v' w' h2 h3 h4)
/-- A unit that was just made a row of. -/
theorem wlit_rds (w : World) (c : Int) (sw : Bool) (v : Value) (xs : List Int) (t : TypeId) : Rds (w.alloc (.cells #[.int .u8 c, .bool sw, v] t)) (fun _ => True) (some ⟨w.heap.size, 0, none⟩) (Dk.wcs [⟨c, sw, v, xs⟩]) := by
  intro j u hu
  match j, hu with
  | 0, hu => simp [Dk.wcs] at hu; subst hu; exact ⟨_, rfl, trivial, by simp [M.addMk]⟩
  | 1, hu => simp [Dk.wcs] at hu; subst hu; exact ⟨_, rfl, trivial, by simp [M.addMk]⟩
  | 2, hu => simp [Dk.wcs] at hu; subst hu; exact ⟨_, rfl, trivial, by simp [M.addMk]⟩
theorem run_size3 (W : World) : (sizeOf 79).run Try.prog W = .ok 3 W := by
  obtain ⟨i0, hi, _, hz1, _⟩ := info_parts Try.rowDkW
  simp [sizeOf, typeInfo, hi, hz1]
/-- s[:p] -/
theorem run_wto (A : Option Addr) (n c p : Nat) (h1 : p ≤ c) (W : World) :
    (Instr.slice 64 (.slice A n c) none (some (.int .i64 (p : Int))) none).run Try.prog W = .ok (.slice A p c) W := by
  have hel : Try.prog.elem 64 = 79 := by simp [Program.elem, Try.underlying64]
  rw [run_slice_h W 64 A n c (by rw [hel]; exact Try.underlying64) .i64 _ (by omega) (by omega), hel, run_size3]
  simp [sliced]
  intro _
  cases A <;> simp [Addr.add]

/-- The document's disk at block g: all its blocks are of fp. -/
structure MDk (w : World) (fp : Nat → Prop) (g : Nat) (Z : Int) (lv : Value) (L : List Int) (wv : Value) (l : List Dk.W) : Prop where
  blo : Blo w g 66 #[.int .i64 Z, lv, wv]
  inn : fp g
  lasts : ByR w fp lv L
  row : WRow w 0 wv l
  rowi : ∀ b, wv.ownBlock = some b → fp b
  swaps : ∀ x ∈ l, ByR w fp x.v x.xs
def MD (w : World) (fp : Nat → Prop) (g : Nat) (Z : Int) (L : List Int) (us : List Dk.U) : Prop := ∃ lv wv l, us = l.map Dk.W.u ∧ MDk w fp g Z lv L wv l
section
variable {fp fq : Nat → Prop} {w w' : World} {g : Nat} {Z : Int} {L : List Int} {us : List Dk.U} {lv wv : Value} {l : List Dk.W}
theorem MDk.keep (h : MDk w fp g Z lv L wv l) (hk : ∀ b, fp b → b < w.heap.size → w'.heap[b]? = w.heap[b]?) : MDk w' fp g Z lv L wv l :=
  ⟨h.blo.keep (hk g h.inn h.blo.lt), h.inn, h.lasts.keep hk, own_keepK h.row fun b e hl => hk b (h.rowi b e) hl, h.rowi, fun x hx => (h.swaps x hx).keep hk⟩
theorem MDk.mono (h : MDk w fp g Z lv L wv l) (hf : ∀ b, fp b → b < w.heap.size → fq b) : MDk w fq g Z lv L wv l :=
  ⟨h.blo, hf g h.inn h.blo.lt, h.lasts.mono hf, h.row, fun b e => hf b (h.rowi b e) (World.ownsRow.lt h.row b e).2, fun x hx => (h.swaps x hx).mono hf⟩
theorem MDk.slc (h : MDk w fp g Z lv L wv l) : ∀ x ∈ l, Dk.Slc x.v := fun x hx => by
  obtain ⟨A, c, e, _⟩ := (h.swaps x hx).form
  exact ⟨A, _, c, e⟩
theorem MD.keep (h : MD w fp g Z L us) (hk : ∀ b, fp b → b < w.heap.size → w'.heap[b]? = w.heap[b]?) : MD w' fp g Z L us := by
  obtain ⟨lv, wv, l, e, h⟩ := h
  exact ⟨lv, wv, l, e, h.keep hk⟩
theorem MD.mono (h : MD w fp g Z L us) (hf : ∀ b, fp b → b < w.heap.size → fq b) : MD w fq g Z L us := by
  obtain ⟨lv, wv, l, e, h⟩ := h
  exact ⟨lv, wv, l, e, h.mono hf⟩
theorem MD.new (h : MD w fp g Z L us) (hb : Below w.heap.size w w') : MD w' fp g Z L us := h.keep fun b _ hl => hb.block b hl
theorem MD.kp (h : MD w fp g Z L us) (hk : Kp fq w w') (hf : ∀ b, fp b → b < w.heap.size → ¬ fq b) : MD w' fp g Z L us := h.keep fun b hb hl => hk.block b hl (hf b hb hl)
end
end Go.Proofs.Ytfllebfegngdhaa
