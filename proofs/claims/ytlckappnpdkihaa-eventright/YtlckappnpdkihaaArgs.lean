/- What the frame's readings of arguments say, in this text's words: integers, rows of integers, rows of records of integers. -/
import Derived.Test.YtlckappnpdkihaaMem
import Derived.OpenShut
import Derived.Deep.Slices
import Derived.Deep.SlicePairs
import Derived.Deep.Matrix
import Derived.Lib.SmallJoins
namespace Go.Proofs.Ytlckappnpdkihaa
open Go.ChangeShapes Go.WideShapes Go.ChangeAt Go.RowKit Go.Deep

section
variable {H : Type} {enc : TypeId × Value → H} {P : Program} {w : World} {base : Nat}
theorem arg_ints {t e : TypeId} {k : IntKind} {v : Value} {d : DataW H} {p : List MemPlace} (ht : P.underlying t = some (.slice e)) (he : P.underlying e = some (.int k)) (hc : P.cellsOf e = 1)
    (ho : Value.okWide P w .any base t v) (hk : DataW.Trod enc P w 0 (fun _ => true) true t v d p) : ∃ a len cap zs, v = .slice a len cap ∧ RowIn k w a len cap zs := by
  obtain ⟨a, len, cap, rfl⟩ := okWide_slice ht ho
  obtain ⟨fuel, hf⟩ := hk
  refine ⟨a, len, cap, ?_⟩
  rcases open_ints ht he hc hf with ⟨hcs, _⟩ | ⟨x, l, c, zs, hcs, _, hl, hm, hz, _, hcell, hwz⟩
  · simp [Value.cells] at hcs
    obtain ⟨rfl, rfl, rfl⟩ := hcs
    exact ⟨[], rfl, .inl ⟨rfl, rfl, rfl, rfl⟩⟩
  · simp [Value.cells] at hcs
    obtain ⟨rfl, rfl, rfl⟩ := hcs
    exact ⟨zs, rfl, .inr ⟨_, rfl, hl, hm, by simpa using hz, hcell, hwz⟩⟩

/-- A field that is a row of integers. -/
theorem cell_ints {t e : TypeId} {k : IntKind} {v : Value} {fuel : Nat} {y : DataW H × List MemPlace} (ht : P.underlying t = some (.slice e)) (he : P.underlying e = some (.int k)) (hc : P.cellsOf e = 1)
    (hf : DataW.trod enc P w 0 (fun _ => true) true fuel t [v] = some y) : ∃ a len cap zs, v = .slice a len cap ∧ RowIn k w a len cap zs := by
  obtain ⟨d, p⟩ := y
  rcases open_ints ht he hc hf with ⟨hcs, _⟩ | ⟨x, l, c, zs, hcs, _, hl, hm, hz, _, hcell, hwz⟩
  · simp at hcs
    subst hcs
    exact ⟨none, 0, 0, [], rfl, .inl ⟨rfl, rfl, rfl, rfl⟩⟩
  · simp at hcs
    subst hcs
    exact ⟨some x, l, c, zs, rfl, .inr ⟨_, rfl, hl, hm, by simpa using hz, hcell, hwz⟩⟩
/-- A field that is an integer. -/
theorem cell_int {t : TypeId} {k : IntKind} {v : Value} {fuel : Nat} {y : DataW H × List MemPlace} (ht : P.underlying t = some (.int k))
    (hf : DataW.trod enc P w 0 (fun _ => true) true fuel t [v] = some y) : ∃ n, v = .int k n ∧ (Lit.int k n).wf = true := by
  obtain ⟨n, hn, _, hw⟩ := DataW.trod_int ht hf
  simp at hn
  exact ⟨n, hn, hw⟩
/-- An integer. -/
theorem arg_int {t : TypeId} {k : IntKind} {v : Value} {d : DataW H} {p : List MemPlace} (ht : P.underlying t = some (.int k))
    (ho : Value.okWide P w .any base t v) (hk : DataW.Trod enc P w 0 (fun _ => true) true t v d p) : ∃ n, v = .int k n ∧ (Lit.int k n).wf = true := by
  obtain ⟨m, rfl⟩ := okWide_int ht ho
  obtain ⟨fuel, hf⟩ := hk
  exact cell_int ht hf

/-- A slice of records, each of m cells. -/
def Recs (w : World) (S : Nat → Prop) (A : Option Addr) (m : Nat) (rows : List (List Value)) : Prop :=
  ∀ i r, rows[i]? = some r → ∃ ad, A = some ad ∧ S ad.block ∧ ∀ j u, r[j]? = some u → w.cell? (ad.add (i * m + j)) = some u

theorem Recs.keep {w w' : World} {S : Nat → Prop} {A : Option Addr} {m : Nat} {rows : List (List Value)} (h : Recs w S A m rows) (hk : ∀ b, S b → b < w.heap.size → w'.heap[b]? = w.heap[b]?) : Recs w' S A m rows := fun i r hr => by
  obtain ⟨ad, e, hs, hc⟩ := h i r hr
  refine ⟨ad, e, hs, fun j u hu => ?_⟩
  have h1 := hc j u hu
  have hl := M.cellLt h1
  rw [M.addBlock] at hl
  exact (World.cell?_of_block (w := w) (by rw [M.addBlock]; exact hk _ hs hl)).trans h1
theorem Recs.below {w w' : World} {S : Nat → Prop} {A : Option Addr} {m B : Nat} {rows : List (List Value)} (h : Recs w S A m rows) (hb : Below B w w') (hS : ∀ b, S b → b < w.heap.size → b < B) : Recs w' S A m rows := h.keep fun b hs hl => hb.block b (hS b hs hl)

/-- The walk's own spelling of a record's further cells. -/
theorem M.addOff (a : Addr) (i j : Nat) (hj : 0 < j) : a.add (i + j) = ⟨(a.add i).block, (a.add i).off + j, none⟩ := by
  unfold Addr.add
  by_cases hi : i = 0
  · subst hi; simp; omega
  · simp [hi]; omega

/-- A record of two numbers. -/
def rec2 (x : Int × Int) : List Value := [.int .i64 x.1, .int .i64 x.2]
theorem Recs.two {w : World} {S : Nat → Prop} {A : Option Addr} {l : List (Int × Int)} (h : Recs w S A 2 (l.map rec2)) {i : Nat} (hi : i < l.length) :
    ∃ ad, A = some ad ∧ S ad.block ∧ w.cell? (ad.add (i * 2)) = some (.int .i64 l[i].1) ∧ w.cell? ⟨(ad.add (i * 2)).block, (ad.add (i * 2)).off + 1, none⟩ = some (.int .i64 l[i].2) := by
  obtain ⟨ad, e, hs, hc⟩ := h i (rec2 l[i]) (by simp [hi])
  exact ⟨ad, e, hs, by simpa using hc 0 _ rfl, by rw [← M.addOff _ _ _ (by omega)]; exact hc 1 _ rfl⟩

theorem arg_pairs {t e : TypeId} {f0 f1 : Field} {v : Value} {d : DataW H} {p : List MemPlace} (ht : P.underlying t = some (.slice e)) (he : P.underlying e = some (.struct #[f0, f1]))
    (ce : P.cellsOf e = 2) (o0 : f0.offset = 0) (o1 : f1.offset = 1) (c0 : P.cellsOf f0.type = 1) (c1 : P.cellsOf f1.type = 1) (u0 : P.underlying f0.type = some (.int .i64)) (u1 : P.underlying f1.type = some (.int .i64))
    (ho : Value.okWide P w .any base t v) (hk : DataW.Trod enc P w 0 (fun _ => true) true t v d p) :
    ∃ a len cap, ∃ l : List (Int × Int), v = .slice a len cap ∧ l.length = len ∧ len ≤ cap ∧ cap ≤ maxLen ∧ Recs w (· < w.heap.size) a 2 (l.map rec2) := by
  obtain ⟨a, len, cap, rfl⟩ := okWide_slice ht ho
  obtain ⟨fuel, hf⟩ := hk
  refine ⟨a, len, cap, ?_⟩
  rcases open_slice_pairs ht he ce o0 o1 c0 c1 hf with ⟨hcs, _⟩ | ⟨x, ln, cp, m, n, V0, V1, D0, D1, P0, P1, hcs, _, hl, hm, hmm, _, hcell⟩
  · simp [Value.cells] at hcs
    obtain ⟨rfl, rfl, rfl⟩ := hcs
    exact ⟨[], rfl, rfl, Nat.le_refl _, by unfold maxLen; omega, fun i r hr => by simp at hr⟩
  · simp [Value.cells] at hcs
    obtain ⟨rfl, rfl, rfl⟩ := hcs
    refine ⟨(List.range len).map fun i => (intOf (V0 i), intOf (V1 i)), rfl, by simp, hl, hm, fun i r hr => ?_⟩
    have hi : i < len := by
      rcases Nat.lt_or_ge i len with h | h
      · exact h
      · rw [List.getElem?_eq_none (by simpa using h)] at hr; cases hr
    have hm' : len ≤ m := by rw [hmm]; split <;> omega
    obtain ⟨e0, e1, t0, t1⟩ := hcell i (by omega)
    obtain ⟨n0, q0, _, _⟩ := DataW.trod_int u0 t0
    obtain ⟨n1, q1, _, _⟩ := DataW.trod_int u1 t1
    simp at q0 q1
    rw [q0] at e0
    rw [q1] at e1
    simp [hi] at hr
    subst hr
    refine ⟨x, rfl, by have := M.cellLt e0; rwa [M.addBlock] at this, fun j u hu => ?_⟩
    match j, hu with
    | 0, hu => simp [rec2, q0, intOf] at hu; subst hu; simpa using e0
    | 1, hu => simp [rec2, q1, intOf] at hu; subst hu; exact e1
/-- Rows of rows of integers: a value for each row, and what it reads as. -/
theorem arg_rows {t e q : TypeId} {k : IntKind} {v : Value} {d : DataW H} {p : List MemPlace} (ht : P.underlying t = some (.slice e)) (he : P.underlying e = some (.slice q)) (hq : P.underlying q = some (.int k)) (ce : P.cellsOf e = 1) (cq : P.cellsOf q = 1)
    (ho : Value.okWide P w .any base t v) (hk : DataW.Trod enc P w 0 (fun _ => true) true t v d p) :
    ∃ a len cap, ∃ (vs : List Value) (bs : List (List Int)), v = .slice a len cap ∧ vs.length = len ∧ bs.length = len ∧ len ≤ cap ∧ cap ≤ maxLen ∧ Rds w (· < w.heap.size) a vs ∧
      ∀ (i : Nat) u b, vs[i]? = some u → bs[i]? = some b → ∃ A c, u = .slice A b.length c ∧ b.length ≤ c ∧ c ≤ maxLen ∧ Rds w (· < w.heap.size) A (b.map (Value.int k)) ∧ ∀ z ∈ b, (Lit.int k z).wf = true := by
  obtain ⟨a, len, cap, rfl⟩ := okWide_slice ht ho
  obtain ⟨fuel, hf⟩ := hk
  refine ⟨a, len, cap, ?_⟩
  rcases open_int_rows ht he hq ce cq hf with ⟨hcs, _⟩ | ⟨x, ln, cp, A, L, C, Z, hcs, _, hl, hm, _, hcell⟩
  · simp [Value.cells] at hcs
    obtain ⟨rfl, rfl, rfl⟩ := hcs
    exact ⟨[], [], rfl, rfl, rfl, Nat.le_refl _, by unfold maxLen; omega, Rds.nil, fun i u b h => by simp at h⟩
  · simp [Value.cells] at hcs
    obtain ⟨rfl, rfl, rfl⟩ := hcs
    refine ⟨(List.range len).map fun r => .slice (A r) (L r) (C r), (List.range len).map fun r => (Z r).take (L r), rfl, by simp, by simp, hl, hm, fun j u hu => ?_, fun i u b hu hb => ?_⟩
    · have hj : j < len := by
        rcases Nat.lt_or_ge j len with h | h
        · exact h
        · rw [List.getElem?_eq_none (by simpa using h)] at hu; cases hu
      have h1 := (hcell j (by omega)).1
      simp [hj] at hu
      subst hu
      exact ⟨x, rfl, by have := M.cellLt h1; rwa [M.addBlock] at this, h1⟩
    · have hj : i < len := by
        rcases Nat.lt_or_ge i len with h | h
        · exact h
        · rw [List.getElem?_eq_none (by simpa using h)] at hu; cases hu
      obtain ⟨_, h2, h3, h4, h5, h6, h7⟩ := hcell i (by omega)
      simp [hj] at hu hb
      subst hu; subst hb
      have hlen : ((Z i).take (L i)).length = L i := by simp; omega
      refine ⟨A i, C i, by rw [hlen], by rw [hlen]; exact h2, h3, fun j u hu => ?_, fun z hz => h5 z (List.mem_of_mem_take hz)⟩
      have hj2 : j < L i := by
        rcases Nat.lt_or_ge j (L i) with h | h
        · exact h
        · rw [List.getElem?_eq_none (by simp; omega)] at hu; cases hu
      cases hA : A i with
      | none => have := h6 hA; omega
      | some a' =>
        have h8 := (h7 a' hA).2 j (by omega)
        rw [List.getElem?_map, List.getElem?_take, if_pos hj2, List.getElem?_eq_getElem (by omega)] at hu
        simp at hu
        subst hu
        rw [List.getD_eq_getElem?_getD, List.getElem?_eq_getElem (by omega)] at h8
        exact ⟨a', rfl, by have := M.cellLt h8; rwa [M.addBlock] at this, h8⟩
end
theorem wf_u64 {n : Int} (h : (Lit.int .u64 n).wf = true) : ∃ m : Nat, n = (m : Int) ∧ m < 18446744073709551616 := by
  have e1 : IntKind.u64.min = 0 := by decide
  have e2 : IntKind.u64.max = 18446744073709551615 := by decide
  simp [Lit.wf, e1, e2] at h
  obtain ⟨m, rfl⟩ := Int.eq_ofNat_of_zero_le h.1
  exact ⟨m, rfl, by omega⟩
theorem wf_i64 {n : Int} (h : (Lit.int .i64 n).wf = true) : -9223372036854775808 ≤ n ∧ n < 9223372036854775808 := by
  have e1 : IntKind.i64.min = -9223372036854775808 := by decide
  have e2 : IntKind.i64.max = 9223372036854775807 := by decide
  simp [Lit.wf, e1, e2] at h
  omega
theorem wf_u8 {n : Int} (h : (Lit.int .u8 n).wf = true) : 0 ≤ n ∧ n < 256 := by
  have e1 : IntKind.u8.min = 0 := by decide
  have e2 : IntKind.u8.max = 255 := by decide
  simp [Lit.wf, e1, e2] at h
  omega
end Go.Proofs.Ytlckappnpdkihaa
