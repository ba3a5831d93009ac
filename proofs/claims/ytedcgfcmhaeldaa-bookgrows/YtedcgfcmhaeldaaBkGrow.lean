/- Layer 8: maps of dots that are so, beside a book. -/
import Derived.Test.YtedcgfcmhaeldaaBkLaw2
namespace Go.Proofs.Ytedcgfcmhaeldaa
set_option linter.unusedVariables false
set_option linter.unusedSimpArgs false
open Go.ChangeShapes Go.WideShapes Go.ChangeAt Go.RowKit

theorem Try.mapB : Try.prog.underlying 72 = some (.map 39 4) := by kernel_rfl
theorem Try.rowBool : (Try.prog.info? 4).map (fun i => i.zero) = some (some (.bool false)) := by kernel_rfl
theorem run_zeroBool (W : World) : (zeroValue 4).run Try.prog W = .ok (.bool false) W := by
  have h := Try.rowBool
  cases hi : Try.prog.info? 4 with
  | none => rw [hi] at h; cases h
  | some i =>
    rw [hi] at h
    simp at h
    simp [zeroValue, typeInfo, hi, h]
def bl (R : D.Dot → Bool) (d : D.Dot) : Option Value := if R d then some (.bool true) else none
/-- Block h is a map of the dots that are so. -/
def Is (W : World) (h : Nat) (R : D.Dot → Bool) : Prop := ∃ n, MapF W h (bl R) n
def orD (R : D.Dot → Bool) (d : D.Dot) : D.Dot → Bool := fun x => R x || decide (x = d)
section
variable {W W' : World} {h : Nat} {R : D.Dot → Bool}
theorem Is.look (k : Is W h R) (d : D.Dot) : (Instr.lookup 72 (.map (some h)) (dv d) false).run Try.prog W = .ok (.bool (R d)) W := by
  obtain ⟨n, k⟩ := k
  have := k.look Try.mapB (run_zeroBool W) d false
  rw [this]
  unfold bl
  cases R d <;> simp
theorem Is.look' (k : Is W h R) (a b : Int) : (Instr.lookup 72 (.map (some h)) (.agg #[.int .i64 a, .int .i64 b]) false).run Try.prog W = .ok (.bool (R (a, b))) W := k.look (a, b)
theorem Is.lt (k : Is W h R) : h < W.heap.size := by obtain ⟨n, k⟩ := k; exact k.lt
theorem Is.keep (k : Is W h R) (hk : W'.heap[h]? = W.heap[h]?) : Is W' h R := by obtain ⟨n, k⟩ := k; exact ⟨n, k.keep hk⟩
theorem Is.new (k : Is W h R) (hb : Below W.heap.size W W') : Is W' h R := k.keep (hb.block h k.lt)
theorem Is.made (w : World) : Is (w.alloc (.map #[] 0)) w.heap.size fun _ => false := ⟨0, MapF.made w⟩
theorem Is.blo {g : Nat} {t : TypeId} {cs : Array Value} (k : Is W h R) (b : Blo W g t cs) : g ≠ h := by
  obtain ⟨n, k⟩ := k
  have := MapM.blo (m := some h) k b
  intro e
  exact this (by rw [e])
theorem Is.db {b : Nat} (k : Is W h R) (d : DB W b) : b ≠ h := by
  obtain ⟨n, k⟩ := k
  exact d.map k
theorem Is.rds {S : Nat → Prop} {A : Option Addr} {xs : List Value} (k : Is W h R) (hr : Rds W S A xs) (hg : W.grownBy W' (some h)) : Rds W' S A xs := by
  obtain ⟨n, k⟩ := k
  have hK : Kpt W W' W.heap.size (some h) := Kpt.ofG hg (.inr (.inl rfl))
  refine (hr.cb.keep fun b hb hl => hK.block b hl (by omega) ?_).mono fun b hb => hb.1
  intro e
  injection e with e
  subst e
  obtain ⟨cs, t, fr, e⟩ := hb.2
  obtain ⟨es, clock, l, e', _⟩ := k
  rw [e'] at e
  cases e
theorem Is.put {d : D.Dot} {n : Nat} (k : MapF W h (putF d (.bool true) (bl R)) n) : Is W h (orD R d) := by
  refine ⟨n, ?_⟩
  have : putF d (.bool true) (bl R) = bl (orD R d) := by
    funext x
    unfold putF bl orD
    by_cases e : x = d
    · simp [e]
    · simp [e]
  rw [← this]
  exact k
end
theorem wpList_isput (w : World) {ops : Array Oper} {rest : List Oper} {o : Oper} {a : Act} {Q : Exit → Act → World → Prop} (hgd : o.guard = none) (x y z : Operand) (ho : o.op = .mapUpdate 72 x y z)
    (b : Nat) (hx : a.eval x = .map (some b)) (d : D.Dot) (hy : a.eval y = dv d) (hz : a.eval z = .bool true) {R : D.Dot → Bool} (hM : Is w b R)
    (h : ∀ W, Is W b (orD R d) → w.grownBy W (some b) → wpList Try.prog ops Q rest (a.put o.dst undef) W) : wpList Try.prog ops Q (o :: rest) a w := by
  obtain ⟨n, hM⟩ := hM
  exact wpList_mput w hgd x y z ho Try.mapB b hx d hy (.bool true) hz hM (fun W h1 h2 => h W (Is.put h1) h2)
/-- Another map's change. -/
theorem Bok.other {w0 W W' : World} {g x : Nat} {m : Option Nat} {b : B.Bk} {H : D.Dot → Bool} (h : Bok w0 W g m b) (hx : Is W x H) (hm : m ≠ some x) (hl : w0.heap.size ≤ x) (hg : W.grownBy W' (some x)) : Bok w0 W' g m b := by
  obtain ⟨⟨h1, T, h2, h3⟩, hgl, hml, hbl⟩ := h
  obtain ⟨A, c, hB, hR⟩ := h3.blk
  refine ⟨⟨h1, T, h2, h3.keep fun y hy hc => hg.block y hy ?_⟩, hgl, hml, hbl.trans ((Kpt.ofG (g := x) (m := none) hg (.inl rfl)).below hbl.size hl (fun _ e => by cases e))⟩
  intro e
  injection e with e
  rcases hc with rfl | hc | hc
  · exact hx.blo hB e
  · exact hm (by rw [← hc, e])
  · exact hx.db hc.2 e
/-- A book, and the map of what was removed. -/
structure GSt (w0 W : World) (g hR : Nat) (m : Option Nat) (b : B.Bk) (R : D.Dot → Bool) : Prop where
  bok : Bok w0 W g m b
  rm : Is W hR R
  ne : m ≠ some hR
  hl : w0.heap.size ≤ hR
section
variable {w0 W W' : World} {g hR : Nat} {m m' : Option Nat} {b b' : B.Bk} {R R' : D.Dot → Bool}
theorem GSt.new (h : GSt w0 W g hR m b R) (hb : Below W.heap.size W W') : GSt w0 W' g hR m b R := ⟨h.bok.new hb, h.rm.new hb, h.ne, h.hl⟩
theorem GSt.add (h : GSt w0 W g hR m b R) (hK : Kpt W W' g m) (hB : Bok w0 W' g m' b') (hm : ∀ x, m' = some x → m = some x ∨ W.heap.size ≤ x) : GSt w0 W' g hR m' b' R := by
  obtain ⟨_, T, _, h3⟩ := h.bok.pb
  obtain ⟨A, c, hBk, _⟩ := h3.blk
  refine ⟨hB, h.rm.keep (hK.block hR h.rm.lt (fun e => h.rm.blo hBk e.symm) (fun e => h.ne e.symm)), fun e => ?_, h.hl⟩
  rcases hm hR e with h1 | h1
  · exact h.ne h1
  · have := h.rm.lt
    omega
theorem GSt.put (h : GSt w0 W g hR m b R) (hg : W.grownBy W' (some hR)) (k : Is W' hR R') : GSt w0 W' g hR m b R' := ⟨h.bok.other h.rm h.ne h.hl hg, k, h.ne, h.hl⟩
theorem GSt.other {x : Nat} {H : D.Dot → Bool} (h : GSt w0 W g hR m b R) (hx : Is W x H) (hne : x ≠ hR) (hm : m ≠ some x) (hl : w0.heap.size ≤ x) (hg : W.grownBy W' (some x)) : GSt w0 W' g hR m b R :=
  ⟨h.bok.other hx hm hl hg, h.rm.keep (hg.block hR h.rm.lt (fun e => by injection e with e; exact hne e.symm)), h.ne, h.hl⟩
end
/-- What was seen, in a box. -/
def Was (W : World) (gy : Nat) (b : B.Bk) : Prop := ∃ A c, Blo W gy 53 (scs (D.cU b.saw) A (D.cM b.saw).length c) ∧ DRd W (fun _ => True) A (D.cM b.saw)
section
variable {w0 W W' : World} {gy g : Nat} {m : Option Nat} {b b' : B.Bk}
theorem Was.new (h : Was W gy b) (hb : Below W.heap.size W W') : Was W' gy b := by obtain ⟨A, c, h1, h2⟩ := h; exact ⟨A, c, h1.new hb, h2.new hb⟩
theorem Was.lt (h : Was W gy b) : gy < W.heap.size := by obtain ⟨A, c, h1, h2⟩ := h; exact h1.lt
theorem Was.kpt {S : Nat → Prop} (h : Was W gy b) (k : PB W S g m b') (hK : Kpt W W' g m) (hne : gy ≠ g) : Was W' gy b := by
  obtain ⟨A, c, h1, h2⟩ := h
  have hb := k.blo hK h1 hne
  obtain ⟨_, T, _, h3⟩ := k
  obtain ⟨A', c', hBk, _⟩ := h3.blk
  obtain ⟨f, hM, _⟩ := h3.map
  exact ⟨A, c, hb, h2.keep fun x _ hd => hK.block x hd.lt (hd.blo hBk (by decide)) (hM.db hd)⟩
theorem Was.other {x : Nat} {H : D.Dot → Bool} (h : Was W gy b) (hx : Is W x H) (hg : W.grownBy W' (some x)) : Was W' gy b := by
  obtain ⟨A, c, h1, h2⟩ := h
  exact ⟨A, c, h1.grown hg (fun e => by injection e with e; exact hx.blo h1 e), h2.keep fun y _ hd => hg.block y hd.lt (fun e => by injection e with e; exact hx.db hd e)⟩
end
/-- The dots of the first so many. -/
def orT (R : D.Dot → Bool) (M : List D.Dot) (j : Nat) : D.Dot → Bool := fun x => R x || decide (x ∈ M.take j)
theorem orT_zero (R : D.Dot → Bool) (M : List D.Dot) : orT R M 0 = R := by funext x; simp [orT]
theorem orT_snoc (R : D.Dot → Bool) (M : List D.Dot) {j : Nat} (h : j < M.length) : orD (orT R M j) M[j] = orT R M (j + 1) := by
  funext x
  unfold orD orT
  rw [List.take_succ_eq_append_getElem h, Bool.eq_iff_iff]
  simp only [Bool.or_eq_true, decide_eq_true_eq, List.mem_append, List.mem_singleton, or_assoc]
theorem orT_all (R : D.Dot → Bool) (F : Nat → Int) (M : List D.Dot) {j : Nat} (h : M.length ≤ j) : orT R M j = B.rmv R (F, M) := by
  funext x
  unfold orT B.rmv
  rw [List.take_of_length_le h]
def dotsE (l : List EvV) (i : Nat) : D.Dot → Bool := fun x => decide (x ∈ (l.take i).map fun e => ((e.F 0, e.F 1) : D.Dot))
theorem dotsE_zero (l : List EvV) : dotsE l 0 = fun _ => false := by funext x; simp [dotsE]
theorem dotsE_snoc {l : List EvV} {i : Nat} (h : i < l.length) : orD (dotsE l i) (l[i].F 0, l[i].F 1) = dotsE l (i + 1) := by
  funext x
  unfold orD dotsE
  rw [List.take_succ_eq_append_getElem h, Bool.eq_iff_iff]
  simp only [Bool.or_eq_true, decide_eq_true_eq, List.map_append, List.map_cons, List.map_nil, List.mem_append, List.mem_singleton]
theorem dotsE_all {l : List EvV} {h : List E.Ev} (hp : plain l = h) {i : Nat} (hi : l.length ≤ i) (x : D.Dot) : dotsE l i x = true ↔ ∃ e ∈ h, B.dotOf e = x := by
  unfold dotsE
  rw [List.take_of_length_le hi, ← hp]
  simp only [decide_eq_true_eq, plain, List.mem_map]
  constructor
  · rintro ⟨e, he, rfl⟩; exact ⟨_, ⟨e, he, rfl⟩, rfl⟩
  · rintro ⟨_, ⟨e, he, rfl⟩, rfl⟩; exact ⟨e, he, rfl⟩
/-- What was seen is seen. -/
theorem grows_less (b : B.Bk) (e : E.Ev) : D.lst (D.less (D.cU b.saw) (D.cM b.saw) (D.cU (B.add b e).saw) (D.cM (B.add b e).saw)) = [] := by
  refine List.eq_nil_iff_forall_not_mem.2 fun d hd => ?_
  obtain ⟨h1, h2⟩ := D.mem_lst.1 hd
  unfold D.less at h2
  rw [D.cl_has, D.cl_has, h1] at h2
  cases h3 : b.saw d with
  | false => rw [h3] at h2; simp at h2
  | true => rw [B.saw_add h3] at h2; simp at h2
/-- A dot that is seen holds, or is removed; not both. -/
theorem grw_xor {b : B.Bk} {R : D.Dot → Bool} (h : B.Grw b R) {l : List EvV} (hp : plain l = b.hold) {i : Nat} (hi : l.length ≤ i) {d : D.Dot} (hd : b.saw d = true) : dotsE l i d = !R d := by
  cases hR : R d with
  | true =>
    rw [Bool.not_true, ← Bool.not_eq_true]
    intro h1
    obtain ⟨e, he, rfl⟩ := (dotsE_all hp hi d).1 h1
    rw [h.dis e he] at hR
    cases hR
  | false =>
    rw [Bool.not_false]
    rcases h.cov d hd with h1 | h1
    · exact (dotsE_all hp hi d).2 h1
    · rw [hR] at h1; cases h1
end Go.Proofs.Ytedcgfcmhaeldaa
