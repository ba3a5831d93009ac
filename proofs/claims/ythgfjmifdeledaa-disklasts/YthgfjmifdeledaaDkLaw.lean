/- Layer 13: rows of steps; the laws' do and great. -/
import Derived.Test.YthgfjmifdeledaaDkAlive
import Derived.Test.YthgfjmifdeledaaDkDo
namespace Go.Proofs.Ythgfjmifdeledaa
set_option linter.unusedVariables false
set_option linter.unusedSimpArgs false
open Go.ChangeShapes Go.WideShapes Go.ChangeAt Go.RowKit Go.Deep

/-- A step as it stands in memory. -/
structure Dk.O where
  k : Int
  N : Int
  A : Option Addr
  n : Nat
  c : Nat
  xs : List Int
def Dk.O.cells (o : Dk.O) : List Value := [.int .i64 o.k, .int .i64 o.N, .slice o.A o.n o.c]
/-- A slice that reads as these steps. -/
structure ORds (w : World) (S : Nat → Prop) (A : Option Addr) (l : List Dk.O) : Prop where
  rows : Recs w S A 3 (l.map Dk.O.cells)
  inn : ∀ o ∈ l, o.xs.length = o.n ∧ o.n ≤ 140737488355328 ∧ Rds w S o.A (u8s o.xs)
  fits : ∀ o ∈ l, o.N < 9223372036854775808
theorem ORds.keep {w w' : World} {S : Nat → Prop} {A : Option Addr} {l : List Dk.O} (h : ORds w S A l) (hk : ∀ b, S b → b < w.heap.size → w'.heap[b]? = w.heap[b]?) : ORds w' S A l :=
  ⟨h.rows.keep hk, fun o ho => ⟨(h.inn o ho).1, (h.inn o ho).2.1, (h.inn o ho).2.2.keep hk⟩, h.fits⟩
theorem ORds.below {w w' : World} {A : Option Addr} {l : List Dk.O} {B : Nat} (h : ORds w (· < B) A l) (hb : Below B w w') : ORds w' (· < B) A l := h.keep fun b hs _ => hb.block b hs
theorem ORds.at {w : World} {S : Nat → Prop} {A : Option Addr} {l : List Dk.O} (h : ORds w S A l) {i : Nat} (hi : i < l.length) :
    ∃ ad, A = some ad ∧ w.cell? (ad.add (i * 3)) = some (.int .i64 l[i].k) ∧ w.cell? ⟨(ad.add (i * 3)).block, (ad.add (i * 3)).off + 1, none⟩ = some (.int .i64 l[i].N) ∧ w.cell? ⟨(ad.add (i * 3)).block, (ad.add (i * 3)).off + 2, none⟩ = some (.slice l[i].A l[i].n l[i].c) := by
  obtain ⟨ad, rfl, _, hc⟩ := h.rows i l[i].cells (by rw [List.getElem?_map, List.getElem?_eq_getElem hi]; rfl)
  exact ⟨ad, rfl, hc 0 _ rfl, by rw [← M.addOff _ _ _ (by omega)]; exact hc 1 _ rfl, by rw [← M.addOff _ _ _ (by omega)]; exact hc 2 _ rfl⟩

set_option maxRecDepth 100000 in
set_option maxHeartbeats 4000000 in
theorem pdo_any {w : World} {fp : Nat → Prop} {g : Nat} {Z : Int} {L : List Int} {us : List Dk.U} (hM : PD w fp g Z L us) (hO : Dk.Ok Z L us) (hl : us.length ≤ 900000000)
    (k N : Int) (S : Nat → Prop) (A : Option Addr) (n c : Nat) (xs : List Int) (hn : xs.length = n) (hr : Rds w S A (u8s xs)) (hS : ∀ b, S b → b < w.heap.size → ¬ fp b) (hn47 : n ≤ 140737488355328) (hN : N < 9223372036854775808 := by omega) :
    Calls Try.prog 11 #[.pointer (some ⟨g, 0, none⟩), opv k N A n c] w fun e w' => PskPost (.int .i64 (Dk.stp Z L us k N xs).1) Z (Dk.stp Z L us k N xs).2.1 (Dk.stp Z L us k N xs).2.2 fp g w e w' := by
  obtain ⟨w1, hw1⟩ : ∃ W, w.alloc (.cells #[.int .i64 k, .int .i64 N, .slice A n c] 34) = W := ⟨_, rfl⟩
  have hb1 : Below w.heap.size w w1 := by rw [← hw1]; exact b_alloc _ _
  have hB1 : Blo w1 w.heap.size 34 #[.int .i64 k, .int .i64 N, .slice A n c] := by rw [← hw1]; exact Blo.made _ _ _
  have hs1 := hb1.size
  have hz1 : w1.heap.size = w.heap.size + 1 := by rw [← hw1]; simp
  have hM1 := (hM.mono (fq := fun b => fp b ∧ b < w.heap.size) fun b hb hl => ⟨hb, hl⟩).keep (w' := w1) fun b _ hl => by
    rcases Nat.lt_or_ge b w.heap.size with h | h
    · exact hb1.block b h
    · omega
  have hS1 : ∀ b, (S b ∧ b < w.heap.size) → b < w1.heap.size → ¬ (fp b ∧ b < w.heap.size) := fun b hb hl hf => hS b hb.1 hb.2 hf.1
  have hr1' := hr.old.new hb1
  obtain ⟨k0, k1, k2, _⟩ := mdk_cells hB1
  have HS : Hid (∀ (r : Int) (L' : List Int) (us' : List Dk.U) (w' : World), PD w' (fun b => (fp b ∧ b < w.heap.size) ∨ w1.heap.size ≤ b) g Z L' us' → Kp (fun b => fp b ∧ b < w.heap.size) w1 w' → Dk.stp Z L us k N xs = (r, L', us') → PskPost (.int .i64 (Dk.stp Z L us k N xs).1) Z (Dk.stp Z L us k N xs).2.1 (Dk.stp Z L us k N xs).2.2 fp g w (.returned (.int .i64 r)) w') := Lib.hid (fun r L' us' w' h2 h3 he => by
    rw [he]
    exact ⟨rfl, h2.mono fun b hb _ => by rcases hb with hb | hb; exact .inl hb.1; exact .inr (by omega), (Kp.of hb1).trans h3 fun b hb => .inl hb.1⟩)
  have HA := Lib.hid (pappend_any hM1 hO hl _ A n c xs hn hr1' hS1 hn47)
  have HB := Lib.hid (pswap_any hM1 hO hl _ A n c xs hn hr1' hS1 hn47)
  have HC := Lib.hid (pcrash_any hM1 hO hl N hN)
  have HD := Lib.hid (psync_any hM1 hO hl)
  have HM := Lib.hid hM1
  clear hM1 hr1' hM hr hn
  by_cases h1 : k = 1
  · have HE : Hid (Dk.stp Z L us k N xs = (Dk.apE Z L us xs, L, Dk.apU Z L us xs)) := Lib.hid (by unfold Dk.stp; rw [if_pos h1])
    subst h1
    go_enter Try.func11, Try.ntmps11
    go_wp2_with fail
    refine HA.out.mono ?_
    rintro e w2 ⟨rfl, h2, h3⟩
    go_wp2
    go_ret
    exact HS.out _ _ _ _ h2 h3 HE.out
  · by_cases h2 : k = 2
    · have HE : Hid (Dk.stp Z L us k N xs = (Dk.swE Z xs, L, Dk.swU Z us xs)) := Lib.hid (by unfold Dk.stp; rw [if_neg h1, if_pos h2])
      subst h2
      go_enter Try.func11, Try.ntmps11
      go_wp2_with fail
      refine HB.out.mono ?_
      rintro e w2 ⟨rfl, h2, h3⟩
      go_wp2
      go_ret
      exact HS.out _ _ _ _ h2 h3 HE.out
    · by_cases h3 : k = 3
      · have HE : Hid (Dk.stp Z L us k N xs = (0, Dk.aft L us, [])) := Lib.hid (by unfold Dk.stp; rw [if_neg h1, if_neg h2, if_pos h3])
        subst h3
        go_enter Try.func11, Try.ntmps11
        go_wp2_with fail
        refine HD.out.mono ?_
        rintro e w2 ⟨rfl, h2, h3⟩
        go_wp2
        go_ret
        exact HS.out _ _ _ _ h2 h3 HE.out
      · by_cases h4 : k = 4
        · have HE : Hid (Dk.stp Z L us k N xs = (0, Dk.aft L (us.take (Dk.cut N us.length)), [])) := Lib.hid (by unfold Dk.stp; rw [if_neg h1, if_neg h2, if_neg h3, if_pos h4])
          subst h4
          go_enter Try.func11, Try.ntmps11
          go_wp2_with fail
          refine HC.out.mono ?_
          rintro e w2 ⟨rfl, h2, h3⟩
          go_wp2
          go_ret
          exact HS.out _ _ _ _ h2 h3 HE.out
        · have HE : Hid (Dk.stp Z L us k N xs = (0, L, us)) := Lib.hid (by unfold Dk.stp; rw [if_neg h1, if_neg h2, if_neg h3, if_neg h4])
          go_enter Try.func11, Try.ntmps11
          go_wp2
          go_ret
          exact HS.out _ _ _ _ (HM.out.mono fun b hb _ => .inl hb) (Kp.refl _ _) HE.out
theorem DS.do {w0 W W' : World} {g : Nat} {Z : Int} {L : List Int} {us : List Dk.U} (h : DS w0 W g Z L us) (hl : us.length ≤ 900000000) (hb : Below W.heap.size W W') (k N : Int) (S : Nat → Prop) (A : Option Addr) (n c : Nat) (xs : List Int) (hn : xs.length = n) (hr : Rds W' S A (u8s xs)) (hS : ∀ b, S b → b < W'.heap.size → b < w0.heap.size ∨ W.heap.size ≤ b) (hn47 : n ≤ 140737488355328) (hN : N < 9223372036854775808 := by omega) :
    Calls Try.prog 11 #[.pointer (some ⟨g, 0, none⟩), opv k N A n c] W' (DSPost (.int .i64 (Dk.stp Z L us k N xs).1) w0 W W' g Z (Dk.stp Z L us k N xs).2.1 (Dk.stp Z L us k N xs).2.2) := by
  obtain ⟨ho, fp, h1, h2, h3⟩ := h
  exact (pdo_any (h1.keep fun b _ hl => hb.block b hl) ho hl k N S A n c xs hn hr (fun b hb hl hf => by
    have := h2 b hf
    have := hS b hb hl
    omega) hn47 hN).mono fun e w' k => DS.of (Dk.stp_ok ho _ _ xs) h2 h3 hb k
/-- More steps than are looked at, or no more than 200. -/
def GrtPost (l : List Dk.O) (w : World) (e : Ending) (w' : World) : Prop := ∃ b, e = .returned (.bool b) ∧ (b = false → l.length ≤ 200) ∧ Below w.heap.size w w'
set_option maxRecDepth 100000 in
set_option maxHeartbeats 4000000 in
theorem dkgreat_any (w : World) (S : Nat → Prop) (A : Option Addr) (c : Nat) (l : List Dk.O) (h : ORds w S A l) (hl : l.length ≤ 140737488355328) :
    Calls Try.prog 8 #[.slice A l.length c] w (GrtPost l w) := by
  go_enter Try.func8, Try.ntmps8
  go_wp2_with fail
  go_loopw [3, 8] (fun nv iv wr => ∃ (i : Nat) (z : Int), iv = .int .i64 i ∧ nv = .int .i64 z ∧ i ≤ l.length ∧ Below w.heap.size w wr) (fun _ iv _ => l.length - (intOf iv).toNat)
  case atStart => exact ⟨0, 0, rfl, rfl, Nat.zero_le _, Below.refl _ _⟩
  case round =>
    obtain ⟨i, z, rfl, rfl, hi, hb⟩ := hrel
    by_cases hlt : i < l.length
    · obtain ⟨ad, rfl, c0, c1, c2⟩ := (h.keep (w' := wr) fun b _ hl => hb.block b hl).at hlt
      generalize l[i] = o at c0 c1 c2
      obtain ⟨ok, oN, oA, on, oc, oxs⟩ := o
      simp only at c0 c1 c2
      obtain ⟨w3, hw3⟩ : ∃ W, wr.alloc (.cells #[.int .i64 ok, .int .i64 oN, .slice oA on oc] 34) = W := ⟨_, rfl⟩
      have hb3 : Below wr.heap.size wr w3 := by rw [← hw3]; exact b_alloc _ _
      have hB3 : Blo w3 wr.heap.size 34 #[.int .i64 ok, .int .i64 oN, .slice oA on oc] := by rw [← hw3]; exact Blo.made _ _ _
      obtain ⟨d0, d1, d2, _⟩ := mdk_cells hB3
      have hb03 := below_new hb hb3
      clear hB3 hb3
      go_wp2
      go_roundw
      case rel => exact ⟨i + 1, _, by go_num, rfl, by omega, hb03⟩
      case measure => simp [intOf]; omega
    · have e : i = l.length := by omega
      by_cases h2 : (200 : Int) < (l.length : Int)
      · clear e
        go_wp2
        go_ret
        exact ⟨true, rfl, (fun h => by cases h), hb⟩
      · clear e
        have h3 : l.length ≤ 200 := by omega
        go_wp2
        go_ret
        exact ⟨_, rfl, fun _ => h3, hb⟩
end Go.Proofs.Ythgfjmifdeledaa
