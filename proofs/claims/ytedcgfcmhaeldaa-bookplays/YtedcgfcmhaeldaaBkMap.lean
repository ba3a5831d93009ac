/- Layer 8, the program's: maps by dots. -/
import Derived.Test.YtedcgfcmhaeldaaEvMem
import Derived.ProofKit
namespace Go.Proofs.Ytedcgfcmhaeldaa
set_option linter.unusedVariables false
set_option linter.unusedSimpArgs false
open Go.ChangeShapes Go.WideShapes Go.ChangeAt Go.RowKit

abbrev KV := List (D.Dot × Value)
/-- Where a key is, and its value. -/
def fix (d : D.Dot) : KV → Nat → Option (Nat × Value)
  | [], _ => none
  | p :: l, i => if p.1 = d then some (i, p.2) else fix d l (i + 1)
def lookD (d : D.Dot) : KV → Option Value
  | [] => none
  | p :: l => if p.1 = d then some p.2 else lookD d l
theorem fix_look (d : D.Dot) : ∀ (l : KV) (i : Nat), (fix d l i).map (·.2) = lookD d l
  | [], _ => rfl
  | p :: l, i => by
    unfold fix lookD
    split
    · rfl
    · exact fix_look d l (i + 1)
theorem fix_none {d : D.Dot} : ∀ {l : KV} {i : Nat}, fix d l i = none ↔ lookD d l = none
  | [], _ => by simp [fix, lookD]
  | p :: l, i => by
    unfold fix lookD
    split
    · simp
    · exact fix_none
theorem fix_some {d : D.Dot} {v : Value} : ∀ {l : KV} {i j : Nat}, fix d l i = some (j, v) → i ≤ j ∧ l[j - i]? = some (d, v)
  | [], _, _ => by simp [fix]
  | p :: l, i, j => by
    intro h
    unfold fix at h
    split at h
    · next e =>
      simp at h
      obtain ⟨rfl, rfl⟩ := h
      simp [← e]
    · obtain ⟨h1, h2⟩ := fix_some h
      refine ⟨by omega, ?_⟩
      rw [show j - i = (j - (i + 1)) + 1 by omega]
      simpa using h2
theorem lookD_app (d : D.Dot) (l m : KV) : lookD d (l ++ m) = (lookD d l).or (lookD d m) := by
  induction l with
  | nil => rfl
  | cons p l ih =>
    simp only [List.cons_append, lookD]
    split
    · rfl
    · exact ih
theorem lookD_none {d : D.Dot} {l : KV} : lookD d l = none ↔ d ∉ l.map (·.1) := by
  induction l with
  | nil => simp [lookD]
  | cons p l ih =>
    unfold lookD
    split
    · next e => simp [e]
    · next e => simp only [ih, List.map_cons, List.mem_cons, not_or]; exact ⟨fun h => ⟨fun h' => e h'.symm, h⟩, fun h => h.2⟩
theorem lookD_at {l : KV} (hn : (l.map (·.1)).Nodup) {j : Nat} {d : D.Dot} {v : Value} (h : l[j]? = some (d, v)) : lookD d l = some v := by
  induction l generalizing j with
  | nil => simp at h
  | cons p l ih =>
    simp only [List.map_cons, List.nodup_cons] at hn
    cases j with
    | zero => simp at h; subst h; simp [lookD]
    | succ j =>
      have h' : l[j]? = some (d, v) := by simpa using h
      have hm : d ∈ l.map (·.1) := List.mem_map.2 ⟨(d, v), List.mem_of_getElem? h', rfl⟩
      unfold lookD
      rw [if_neg (fun e => hn.1 (by rw [e]; exact hm))]
      exact ih hn.2 h'
theorem map_erase {α β : Type} (f : α → β) : ∀ (l : List α) (j : Nat), (l.eraseIdx j).map f = (l.map f).eraseIdx j
  | [], _ => rfl
  | _ :: _, 0 => rfl
  | x :: l, j + 1 => by simp [map_erase f l j]
theorem lookD_set {l : KV} (hn : (l.map (·.1)).Nodup) {j : Nat} {d : D.Dot} {v u : Value} (h : l[j]? = some (d, v)) (x : D.Dot) : lookD x (l.set j (d, u)) = if x = d then some u else lookD x l := by
  induction l generalizing j with
  | nil => simp at h
  | cons p l ih =>
    simp only [List.map_cons, List.nodup_cons] at hn
    cases j with
    | zero =>
      simp at h; subst h
      by_cases e : x = d
      · subst e; simp [lookD]
      · have e' : ¬ d = x := fun k => e k.symm
        simp [lookD, e, e']
    | succ j =>
      have h' : l[j]? = some (d, v) := by simpa using h
      have hm : d ∈ l.map (·.1) := List.mem_map.2 ⟨(d, v), List.mem_of_getElem? h', rfl⟩
      simp only [List.set_cons_succ, lookD, ih hn.2 h']
      by_cases e : p.1 = x
      · have : x ≠ d := fun k => hn.1 (by rw [e, k]; exact hm)
        simp [e, this]
      · simp [e]
theorem lookD_erase {l : KV} (hn : (l.map (·.1)).Nodup) {j : Nat} {d : D.Dot} {v : Value} (h : l[j]? = some (d, v)) (x : D.Dot) : lookD x (l.eraseIdx j) = if x = d then none else lookD x l := by
  induction l generalizing j with
  | nil => simp at h
  | cons p l ih =>
    simp only [List.map_cons, List.nodup_cons] at hn
    cases j with
    | zero =>
      simp at h; subst h
      by_cases e : x = d
      · subst e; simpa using lookD_none.2 hn.1
      · have e' : ¬ d = x := fun k => e k.symm
        simp [lookD, e, e']
    | succ j =>
      have h' : l[j]? = some (d, v) := by simpa using h
      have hm : d ∈ l.map (·.1) := List.mem_map.2 ⟨(d, v), List.mem_of_getElem? h', rfl⟩
      simp only [List.eraseIdx_cons_succ, lookD, ih hn.2 h']
      by_cases e : p.1 = x
      · have : x ≠ d := fun k => hn.1 (by rw [e, k]; exact hm)
        simp [e, this]
      · simp [e]

theorem run_checkInt (e : Bool) (n : Nat) (a : Int) (W : World) : (Instr.checkKey e (n + 1) 3 (.int .i64 a)).run Try.prog W = .ok () W := by
  rw [Instr.checkKey]
  simp [run_underlying Try.underlying3]
theorem run_checkDot (e : Bool) (d : D.Dot) (W : World) : (Instr.checkKey e 10000 39 (dv d)).run Try.prog W = .ok () W := by
  obtain ⟨f, g, e', hf, hg⟩ := two_fields Try.fieldsDot
  have e2 : Try.prog.fieldsOf 39 = #[f, g] := by rw [← Array.toList_inj, e']
  simp only [Prod.mk.injEq] at hf hg
  obtain ⟨h1, h2, h3⟩ := hf
  obtain ⟨h4, h5, h6⟩ := hg
  show (Instr.checkKey e (9999 + 1) _ _).run Try.prog W = _
  rw [Instr.checkKey]
  have hi1 := run_checkInt e 9998 d.1 W
  have hi2 := run_checkInt e 9998 d.2 W
  simp [run_underlying Try.structDot, e2, h1, h2, h3, h4, h5, h6, go_sem, part, hi1, hi2]
theorem run_sameDot (d x : D.Dot) (W : World) : (Op.equal 39 (dv d) (dv x)).run Try.prog W = .ok (decide (x = d)) W := by
  simp only [Op.equal, Op.maxDepth]
  rw [eqIn_dot]
  congr 1
  rw [Bool.eq_iff_iff]
  simp only [Bool.and_eq_true, beq_iff_eq, decide_eq_true_eq]
  exact ⟨fun h => Prod.ext h.1.symm h.2.symm, fun h => by rw [h]; exact ⟨rfl, rfl⟩⟩
def KVs (es : List MapEntry) (l : KV) : Prop := es.map (fun e => (e.key, e.val)) = l.map fun p => (dv p.1, p.2)
theorem run_ask (d : D.Dot) (W : World) : ∀ {es : List MapEntry} {l : KV} (i : Nat), KVs es l → (Instr.findAsking 39 (dv d) es i).run Try.prog W = .ok (fix d l i) W
  | [], [], i, _ => rfl
  | [], p :: l, i, h => by simp [KVs] at h
  | e :: es, [], i, h => by simp [KVs] at h
  | e :: es, p :: l, i, h => by
    simp only [KVs, List.map_cons, List.cons.injEq, Prod.mk.injEq] at h
    obtain ⟨⟨h1, h2⟩, h3⟩ := h
    have ih := run_ask d W (i + 1) (es := es) (l := l) h3
    unfold Instr.findAsking fix
    simp only [Sem.run_bind, h1, run_sameDot, Result.andThen_ok]
    by_cases e : p.1 = d
    · simp [e, h2]
    · simp [e, ih]
theorem run_findDot (d : D.Dot) (W : World) {es : List MapEntry} {l : KV} (h : KVs es l) : (Instr.findKey 39 (dv d) es).run Try.prog W = .ok (fix d l 0) W := by
  have h1 := run_ask d W 0 h
  unfold Instr.findKey
  cases es with
  | nil =>
    cases l with
    | nil => simp [run_underlying Try.structDot, Instr.findNow, fix]
    | cons p l => simp [KVs] at h
  | cons e es => simpa [run_underlying Try.structDot, Instr.findNow, Instr.sameNow] using h1
/-- Block b is a map of so many entries that answers so. -/
def MapF (w : World) (b : Nat) (f : D.Dot → Option Value) (n : Nat) : Prop :=
  ∃ (es : Array MapEntry) (clock : Nat) (l : KV), w.heap[b]? = some (.map es clock) ∧ KVs es.toList l ∧ (l.map (·.1)).Nodup ∧ (∀ d, f d = lookD d l) ∧ n = l.length
theorem MapF.keep {w w' : World} {b n : Nat} {f : D.Dot → Option Value} (h : MapF w b f n) (hk : w'.heap[b]? = w.heap[b]?) : MapF w' b f n := by
  obtain ⟨es, clock, l, h1, h2⟩ := h
  exact ⟨es, clock, l, hk.trans h1, h2⟩
theorem MapF.lt {w : World} {b n : Nat} {f : D.Dot → Option Value} (h : MapF w b f n) : b < w.heap.size := by
  obtain ⟨es, clock, l, h1, _⟩ := h
  exact (Array.getElem?_eq_some_iff.1 h1).1
theorem MapF.new {w w' : World} {b n : Nat} {f : D.Dot → Option Value} (h : MapF w b f n) (hb : Below w.heap.size w w') : MapF w' b f n := h.keep (hb.block b h.lt)
theorem MapF.made (w : World) : MapF (w.alloc (.map #[] 0)) w.heap.size (fun _ => none) 0 := ⟨#[], 0, [], heap_alloc_new w _, rfl, by simp, fun _ => rfl, rfl⟩
theorem kvs_size {es : Array MapEntry} {l : KV} (h : KVs es.toList l) : es.size = l.length := by
  have := congrArg List.length h
  simpa using this
theorem MapF.len {w : World} {b n : Nat} {f : D.Dot → Option Value} {t e : TypeId} (h : MapF w b f n) (ht : Try.prog.underlying t = some (.map 39 e)) (ty : TypeId) : (Builtin.len_ #[t] ty #[.map (some b)]).run Try.prog w = .ok (.int .i64 n) w := by
  obtain ⟨es, clock, l, h1, h2, h3, h4, rfl⟩ := h
  simp [Builtin.len_, run_underlying ht, MapKept.run_getObj_map h1, goInt, kvs_size h2]
theorem MapF.look {w : World} {b n : Nat} {f : D.Dot → Option Value} {t e : TypeId} {z : Value} (h : MapF w b f n) (ht : Try.prog.underlying t = some (.map 39 e)) (hz : (zeroValue e).run Try.prog w = .ok z w) (d : D.Dot) (c : Bool) :
    (Instr.lookup t (.map (some b)) (dv d) c).run Try.prog w = .ok (if c then .tuple #[(f d).getD z, .bool (f d).isSome] else (f d).getD z) w := by
  obtain ⟨es, clock, l, h1, h2, h3, h4, rfl⟩ := h
  have h5 := run_findDot d w h2
  have h6 := fix_look d l 0
  rw [h4 d]
  unfold Instr.lookup
  simp only [Sem.run_bind, run_underlying ht, Result.andThen_ok, MapKept.run_getObj_map h1, Sem.run_pure, run_checkDot, h5]
  cases hf : fix d l 0 with
  | none => rw [hf] at h6; simp [← h6, hz]
  | some p => rw [hf] at h6; obtain ⟨j, v⟩ := p; simp [← h6]
theorem MapF.lookN {w : World} {t e : TypeId} {z : Value} (ht : Try.prog.underlying t = some (.map 39 e)) (hz : (zeroValue e).run Try.prog w = .ok z w) (d : D.Dot) (c : Bool) :
    (Instr.lookup t (.map none) (dv d) c).run Try.prog w = .ok (if c then .tuple #[z, .bool false] else z) w := by
  have h5 := run_findDot d w (es := []) (l := []) rfl
  unfold Instr.lookup
  simp only [Sem.run_bind, run_underlying ht, Result.andThen_ok, Sem.run_pure, run_checkDot]
  simp [h5, hz, fix]
theorem set_grown {w : World} {b : Nat} (o : Obj) : w.grownBy { w with heap := w.heap.setIfInBounds b o } (some b) :=
  ⟨rfl, rfl, rfl, by simp, fun k _ hk => by simp only [Array.getElem?_setIfInBounds]; rw [if_neg (fun e => hk (by rw [e]))]⟩
theorem MapF.drop {w : World} {b n : Nat} {f : D.Dot → Option Value} {t e : TypeId} (h : MapF w b f n) (ht : Try.prog.underlying t = some (.map 39 e)) (d : D.Dot) (ty : TypeId) :
    ∃ W, (Builtin.delete_ #[t, 39] ty #[.map (some b), dv d]).run Try.prog w = .ok (.tuple #[]) W ∧ MapF W b (fun x => if x = d then none else f x) (if (f d).isSome then n - 1 else n) ∧ w.grownBy W (some b) := by
  have hlt := h.lt
  obtain ⟨es, clock, l, h1, h2, h3, h4, rfl⟩ := h
  have h5 := run_findDot d w h2
  have h6 := fix_look d l 0
  unfold Builtin.delete_
  cases hf : fix d l 0 with
  | none =>
    rw [hf] at h5 h6
    refine ⟨_, ?_, ?_, set_grown (.map es clock)⟩
    · simp [run_underlying ht, MapKept.run_getObj_map h1, run_checkDot, h5, MapKept.run_setObj_map _ h1]
    · rw [h4 d, ← h6]
      refine ⟨es, clock, l, by simp [hlt], h2, h3, fun x => ?_, by simp⟩
      by_cases e : x = d
      · subst e; simpa using h6
      · simp [e, h4]
  | some p =>
    obtain ⟨j, v⟩ := p
    rw [hf] at h5 h6
    obtain ⟨_, h7⟩ := fix_some hf
    simp only [Nat.sub_zero] at h7
    have hj : j < l.length := (List.getElem?_eq_some_iff.1 h7).1
    refine ⟨_, ?_, ?_, set_grown (.map (es.eraseIdxIfInBounds j) clock)⟩
    · simp [run_underlying ht, MapKept.run_getObj_map h1, run_checkDot, h5, MapKept.run_setObj_map _ h1]
    · rw [h4 d, ← h6]
      refine ⟨es.eraseIdxIfInBounds j, clock, l.eraseIdx j, by simp [hlt], ?_, ?_, fun x => ?_, by simp [List.length_eraseIdx, hj]⟩
      · have hs := kvs_size h2
        unfold KVs at h2 ⊢
        rw [Array.eraseIdxIfInBounds, dif_pos (by omega), Array.toList_eraseIdx, map_erase, h2, map_erase]
      · rw [map_erase]; exact h3.sublist (List.eraseIdx_sublist _ _)
      · rw [lookD_erase h3 h7]; simp only [h4]
theorem MapF.dropN {w : World} {t e : TypeId} (ht : Try.prog.underlying t = some (.map 39 e)) (d : D.Dot) (ty : TypeId) : (Builtin.delete_ #[t, 39] ty #[.map none, dv d]).run Try.prog w = .ok (.tuple #[]) w := by
  unfold Builtin.delete_
  simp [run_underlying ht, run_checkDot]
theorem same_dv (d : D.Dot) : Instr.sameBits 10000 (dv d) (dv d) = true := by
  show Instr.sameBits (9999 + 1) _ _ = true
  simp [Instr.sameBits]
theorem MapF.store {w : World} {b n : Nat} {f : D.Dot → Option Value} {t e : TypeId} (h : MapF w b f n) (ht : Try.prog.underlying t = some (.map 39 e)) (d : D.Dot) (v : Value) :
    ∃ W, (Instr.mapUpdate t (.map (some b)) (dv d) v).run Try.prog w = .ok () W ∧ MapF W b (fun x => if x = d then some v else f x) (if (f d).isSome then n else n + 1) ∧ w.grownBy W (some b) := by
  have hlt := h.lt
  obtain ⟨es, clock, l, h1, h2, h3, h4, rfl⟩ := h
  have h5 := run_findDot d w h2
  have h6 := fix_look d l 0
  unfold Instr.mapUpdate
  cases hf : fix d l 0 with
  | none =>
    rw [hf] at h5 h6
    refine ⟨_, ?_, ?_, set_grown (.map (es.push ⟨dv d, v, clock⟩) (clock + 1))⟩
    · simp [run_underlying ht, MapKept.run_getObj_map h1, run_checkDot, h5, MapKept.run_setObj_map _ h1]
    · rw [h4 d, ← h6]
      refine ⟨es.push ⟨dv d, v, clock⟩, clock + 1, l ++ [(d, v)], by simp [hlt], ?_, ?_, fun x => ?_, by simp⟩
      · unfold KVs at h2 ⊢
        simp [h2]
      · have hn : d ∉ l.map (·.1) := lookD_none.1 (by simpa using h6.symm)
        rw [List.map_append]
        refine List.nodup_append.2 ⟨h3, by simp, ?_⟩
        intro a ha c hc e
        simp at hc
        subst hc; subst e
        exact hn ha
      · rw [lookD_app]
        simp only [h4]
        by_cases e : x = d
        · subst e; rw [← h6]; simp [lookD]
        · have e' : ¬ d = x := fun k => e k.symm
          simp [lookD, e, e']
  | some p =>
    obtain ⟨j, u⟩ := p
    rw [hf] at h5 h6
    obtain ⟨_, h7⟩ := fix_some hf
    simp only [Nat.sub_zero] at h7
    have hj : j < l.length := (List.getElem?_eq_some_iff.1 h7).1
    have hs := kvs_size h2
    have hj' : j < es.size := by omega
    have hkey : es[j].key = dv d := by
      have := congrArg (·[j]?) h2
      simp [h7, hj'] at this
      simpa using this.1
    have hstay : (Instr.keyThatStays (((es[j]?).map (·.key)).getD (dv d)) (dv d)).run Try.prog w = .ok (dv d) w := by
      rw [Array.getElem?_eq_getElem hj']
      simp only [Option.map_some, Option.getD_some, hkey]
      unfold Instr.keyThatStays
      rw [same_dv, if_pos rfl]
      rfl
    refine ⟨_, ?_, ?_, set_grown (.map (es.modify j fun e => { e with key := dv d, val := v }) clock)⟩
    · simp [run_underlying ht, MapKept.run_getObj_map h1, run_checkDot, h5, MapKept.run_setObj_map _ h1, hstay]
    · rw [h4 d, ← h6]
      refine ⟨es.modify j fun e => { e with key := dv d, val := v }, clock, l.set j (d, v), by simp [hlt], ?_, ?_, fun x => ?_, by simp⟩
      · unfold KVs at h2 ⊢
        rw [Array.toList_modify]
        refine List.ext_getElem? fun i => ?_
        have := congrArg (·[i]?) h2
        simp only [List.getElem?_map, List.getElem?_modify, List.getElem?_set] at this ⊢
        by_cases e : j = i
        · subst e
          simp [hj, hj']
        · simp only [e, if_false]
          simpa using this
      · have : (l.set j (d, v)).map (·.1) = l.map (·.1) := by
          refine List.ext_getElem? fun i => ?_
          simp only [List.getElem?_map, List.getElem?_set]
          by_cases e : j = i
          · subst e; rw [h7]; simp [hj]
          · simp [e]
        rw [this]; exact h3
      · rw [lookD_set h3 h7]; simp only [h4]
end Go.Proofs.Ytedcgfcmhaeldaa
