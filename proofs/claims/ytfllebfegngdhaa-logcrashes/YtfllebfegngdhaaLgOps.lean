/- Layer 14: rows of steps; the law's great. -/
import Derived.Test.YtfllebfegngdhaaLogBytesM
namespace Go.Proofs.Ytfllebfegngdhaa
set_option linter.unusedVariables false
set_option linter.unusedSimpArgs false
open Go.ChangeShapes Go.WideShapes Go.ChangeAt Go.RowKit Go.Deep

/-- A step as it stands in memory: a kind, a number, bytes, rows of bytes. -/
structure Lg.O where
  k : Int
  N : Int
  A : Option Addr
  n : Nat
  c : Nat
  xs : List Int
  B : Option Addr
  m : Nat
  d : Nat
  us : List Value
  bs : List (List Int)
def Lg.O.cells (o : Lg.O) : List Value := [.int .i64 o.k, .int .i64 o.N, .slice o.A o.n o.c, .slice o.B o.m o.d]
/-- What is known of a step that came in. -/
structure Lg.O.Ok (w : World) (S : Nat → Prop) (o : Lg.O) : Prop where
  n : o.xs.length = o.n
  n47 : o.n ≤ 140737488355328
  r : Rds w S o.A (u8s o.xs)
  y : Byt o.xs
  m : o.bs.length = o.m
  m24 : o.m ≤ 5864062014805
  s : Rds w S o.B o.us
  b : BRd w S o.us o.bs
  z : ∀ b ∈ o.bs, b.length ≤ 140737488355328 ∧ Byt b
  f : o.N < 9223372036854775808
theorem Lg.O.Ok.keep {w w' : World} {S : Nat → Prop} {o : Lg.O} (h : o.Ok w S) (hk : ∀ b, S b → b < w.heap.size → w'.heap[b]? = w.heap[b]?) : o.Ok w' S :=
  ⟨h.n, h.n47, h.r.keep hk, h.y, h.m, h.m24, h.s.keep hk, h.b.keep hk, h.z, h.f⟩
/-- A slice that reads as these steps. -/
structure LOps (w : World) (S : Nat → Prop) (A : Option Addr) (l : List Lg.O) : Prop where
  rows : Recs w S A 4 (l.map Lg.O.cells)
  inn : ∀ o ∈ l, o.Ok w S
theorem LOps.keep {w w' : World} {S : Nat → Prop} {A : Option Addr} {l : List Lg.O} (h : LOps w S A l) (hk : ∀ b, S b → b < w.heap.size → w'.heap[b]? = w.heap[b]?) : LOps w' S A l :=
  ⟨h.rows.keep hk, fun o ho => (h.inn o ho).keep hk⟩
theorem LOps.below {w w' : World} {A : Option Addr} {l : List Lg.O} {B : Nat} (h : LOps w (· < B) A l) (hb : Below B w w') : LOps w' (· < B) A l := h.keep fun b hs _ => hb.block b hs
theorem LOps.at {w : World} {S : Nat → Prop} {A : Option Addr} {l : List Lg.O} (h : LOps w S A l) {i : Nat} (hi : i < l.length) :
    ∃ ad, A = some ad ∧ w.cell? (ad.add (i * 4)) = some (.int .i64 l[i].k) ∧ w.cell? ⟨(ad.add (i * 4)).block, (ad.add (i * 4)).off + 1, none⟩ = some (.int .i64 l[i].N) ∧ w.cell? ⟨(ad.add (i * 4)).block, (ad.add (i * 4)).off + 2, none⟩ = some (.slice l[i].A l[i].n l[i].c) ∧
      w.cell? ⟨(ad.add (i * 4)).block, (ad.add (i * 4)).off + 3, none⟩ = some (.slice l[i].B l[i].m l[i].d) := by
  obtain ⟨ad, rfl, _, hc⟩ := h.rows i l[i].cells (by rw [List.getElem?_map, List.getElem?_eq_getElem hi]; rfl)
  exact ⟨ad, rfl, hc 0 _ rfl, by rw [← M.addOff _ _ _ (by omega)]; exact hc 1 _ rfl, by rw [← M.addOff _ _ _ (by omega)]; exact hc 2 _ rfl, by rw [← M.addOff _ _ _ (by omega)]; exact hc 3 _ rfl⟩
theorem op4_cells {w : World} {g : Nat} {t : TypeId} {a b c d : Value} (h : Blo w g t #[a, b, c, d]) :
    w.cell? ⟨g, 0, none⟩ = some a ∧ w.cell? ⟨g, 1, none⟩ = some b ∧ w.cell? ⟨g, 2, none⟩ = some c ∧ w.cell? ⟨g, 3, none⟩ = some d :=
  ⟨by simpa using h.cell 0, by simpa using h.cell 1, by simpa using h.cell 2, by simpa using h.cell 3⟩

/-- More steps than are looked at, or few, of few bodies each. -/
def LGrtPost (l : List Lg.O) (w : World) (e : Ending) (w' : World) : Prop := ∃ b, e = .returned (.bool b) ∧ (b = false → l.length ≤ 100 ∧ ∀ o ∈ l, o.m ≤ 20000) ∧ Below w.heap.size w w'
set_option maxRecDepth 100000 in
set_option maxHeartbeats 4000000 in
theorem lggreat_any (w : World) (S : Nat → Prop) (A : Option Addr) (c : Nat) (l : List Lg.O) (h : LOps w S A l) (hl : l.length ≤ 140737488355328) :
    Calls Try.prog 8 #[.slice A l.length c] w (LGrtPost l w) := by
  go_enter Try.func8, Try.ntmps8
  go_wp2_with fail
  go_loopw [3, 10] (fun nv iv wr => ∃ (i : Nat) (z : Int), iv = .int .i64 i ∧ nv = .int .i64 z ∧ i ≤ l.length ∧ (l.length ≤ 100 → 0 ≤ z ∧ z ≤ 58646484210074805 * i ∧ ∀ o ∈ l.take i, (o.m : Int) ≤ z) ∧ Below w.heap.size w wr) (fun _ iv _ => l.length - (intOf iv).toNat)
  case atStart => exact ⟨0, 0, rfl, rfl, Nat.zero_le _, fun _ => ⟨by omega, by omega, fun o ho => by simp at ho⟩, Below.refl _ _⟩
  case round =>
    obtain ⟨i, z, rfl, rfl, hi, hzz, hb⟩ := hrel
    by_cases hlt : i < l.length
    · have hO := h.keep (w' := wr) fun b _ hl => hb.block b hl
      obtain ⟨ad, rfl, c0, c1, c2, c3⟩ := hO.at hlt
      have hok := hO.inn l[i] (List.getElem_mem hlt)
      have HTS : Hid (l.take (i + 1) = l.take i ++ [l[i]]) := Lib.hid (List.take_succ_eq_append_getElem hlt)
      generalize l[i] = o at c0 c1 c2 c3 hok HTS
      obtain ⟨ok, oN, oA, on, oc, oxs, oB, om, od, ous, obs⟩ := o
      simp only at c0 c1 c2 c3
      have HOK := Lib.hid hok
      have hom := hok.m24
      have hous : ous.length = om := by rw [hok.b.1]; exact hok.m
      simp only at hom
      obtain ⟨w3, hw3⟩ : ∃ W, wr.alloc (.cells #[.int .i64 ok, .int .i64 oN, .slice oA on oc, .slice oB om od] 35) = W := ⟨_, rfl⟩
      have hb3 : Below wr.heap.size wr w3 := by rw [← hw3]; exact b_alloc _ _
      have hB3 : Blo w3 wr.heap.size 35 #[.int .i64 ok, .int .i64 oN, .slice oA on oc, .slice oB om od] := by rw [← hw3]; exact Blo.made _ _ _
      obtain ⟨d0, d1, d2, d3⟩ := op4_cells hB3
      have hb03 := below_new hb hb3
      have HSR : Hid (Rds w3 S oB ous ∧ BRd w3 S ous obs) := Lib.hid ⟨hok.s.new hb3, hok.b.new hb3⟩
      have HZ := Lib.hid hzz
      clear hB3 hb3 hok hO hzz
      go_wp2_with fail
      obtain ⟨wo, hwo⟩ : ∃ W, W = wr := ⟨_, rfl⟩
      subst hwo
      go_loopw [3, 23] (fun nv jv ws => ∃ (j : Nat) (y : Int), jv = .int .i64 j ∧ nv = .int .i64 y ∧ j ≤ om ∧ (l.length ≤ 100 → z + j ≤ y ∧ y ≤ z + 10000 + 10001 * j) ∧ w3 = ws) (fun _ jv _ => om - (intOf jv).toNat)
      case atStart => exact ⟨0, _, rfl, rfl, Nat.zero_le _, fun h => by
        obtain ⟨z0, z1, _⟩ := HZ.out h
        have : wrap64 (z + min (on : Int) 10000) = z + min (on : Int) 10000 := IntWalk.wrap64_in _ (by omega)
        rw [this]
        omega, rfl⟩
      case round =>
        obtain ⟨j, y, rfl, rfl, hj, hyy, rfl⟩ := hrel
        by_cases hjl : j < om
        · have hjv : j < ous.length := by omega
          have hjb : j < obs.length := by rw [← HSR.out.2.1]; exact hjv
          obtain ⟨ad2, rfl, _, hc⟩ := HSR.out.1.at (j := j) hjv
          obtain ⟨A2, cc2, e2, hdr⟩ := HSR.out.2.2 j ous[j] obs[j] (List.getElem?_eq_getElem _) (List.getElem?_eq_getElem _)
          rw [e2] at hc
          have hjI : (j : Int) < (om : Int) := by omega
          generalize (obs[j]).length = ln at hc
          have HY := Lib.hid hyy
          clear hdr e2 hjv hjb hyy d0 d1 d2 d3
          go_wp2
          go_roundw
          case rel => exact ⟨j + 1, _, by go_num, rfl, by omega, fun h => by
            obtain ⟨z0, z1, _⟩ := HZ.out h
            obtain ⟨y0, y1⟩ := HY.out h
            have : wrap64 (y + (1 + min (ln : Int) 10000)) = y + (1 + min (ln : Int) 10000) := IntWalk.wrap64_in _ (by omega)
            first
              | (rw [this]; omega)
              | (have e3 : wrap64 (1 + min (ln : Int) 10000) = 1 + min (ln : Int) 10000 := IntWalk.wrap64_in _ (by omega)
                 rw [e3, this]; omega), by trivial⟩
          case measure => simp [intOf]; omega
        · have hjI : ¬ (j : Int) < (om : Int) := by omega
          have HZ2 : Hid (l.length ≤ 100 → 0 ≤ y ∧ y ≤ 58646484210074805 * ((i + 1 : Nat) : Int) ∧ ∀ o ∈ l.take (i + 1), (o.m : Int) ≤ y) := Lib.hid (fun h => by
            obtain ⟨z0, z1, z2⟩ := HZ.out h
            obtain ⟨y0, y1⟩ := hyy h
            refine ⟨by omega, by omega, fun o ho => ?_⟩
            rw [HTS.out] at ho
            rcases List.mem_append.1 ho with ho | ho
            · have := z2 o ho; omega
            · simp only [List.mem_singleton] at ho
              subst ho
              simp only
              omega)
          clear hyy d0 d1 d2 d3 HZ
          go_wp2
          go_roundw
          case rel => exact ⟨i + 1, y, by go_num, rfl, by omega, HZ2.out, hb03⟩
          case measure => simp [intOf]; omega
    · have e : i = l.length := by omega
      have hta : l.take i = l := List.take_of_length_le (by omega)
      rw [hta] at hzz
      by_cases h2 : (100 : Int) < (l.length : Int)
      · clear e hta hzz
        go_wp2
        go_ret
        exact ⟨true, rfl, (fun h => by cases h), hb⟩
      · by_cases h3 : 20000 < z
        · clear e hta hzz
          go_wp2
          go_ret
          exact ⟨true, rfl, (fun h => by cases h), hb⟩
        · have HP : Hid (l.length ≤ 100 ∧ ∀ o ∈ l, o.m ≤ 20000) := Lib.hid ⟨by omega, fun o ho => by
            have := (hzz (by omega)).2.2 o ho
            omega⟩
          clear e hta hzz
          go_wp2
          go_ret
          exact ⟨false, rfl, fun _ => HP.out, hb⟩
end Go.Proofs.Ytfllebfegngdhaa
