/- Layer 14: a step on both disks, in whichever order; what a step of the law's comes to. -/
import Derived.Test.YtfllebfegngdhaaLgOps
import Derived.Test.YtfllebfegngdhaaDkPlay
namespace Go.Proofs.Ytfllebfegngdhaa
set_option linter.unusedVariables false
set_option linter.unusedSimpArgs false
open Go.ChangeShapes Go.WideShapes Go.ChangeAt Go.RowKit Go.Deep

/-- What a step answers, and the disk behind it. -/
def Lg.stp (Z : Int) (L : List Int) (us : List Dk.U) (k N : Int) (xs : List Int) (bs : List (List Int)) : Int × List Int × List Dk.U :=
  if k = 1 then Lg.wrt Z L us xs
  else if k = 2 then (0, Lg.mnd L us)
  else if k = 3 then Lg.rwr Z L us bs
  else if k = 4 then (Dk.apE Z L us xs, L, Dk.apU Z L us xs)
  else if k = 5 then (0, Dk.aft L (us.take (Dk.cut N us.length)), [])
  else if k = 6 then (Dk.swE Z xs, L, Dk.swU Z us xs)
  else (0, L, us)
theorem Lg.stp_ok {Z : Int} {L : List Int} {us : List Dk.U} (h : Dk.Ok Z L us) (k N : Int) (xs : List Int) (bs : List (List Int)) : Dk.Ok Z (Lg.stp Z L us k N xs bs).2.1 (Lg.stp Z L us k N xs bs).2.2 := by
  unfold Lg.stp
  repeat' split
  · exact Lg.wrt_ok h xs
  · exact Lg.mnd_ok h
  · exact Lg.rwr_ok h bs
  · exact Dk.apU_ok h xs
  · exact h.crash _
  · exact Dk.swU_ok h xs
  · exact h
theorem Lg.stp_by {Z : Int} {L : List Int} {us : List Dk.U} (h : Lg.By L us) (k N : Int) {xs : List Int} (hx : Byt xs) {bs : List (List Int)} (hb : ∀ b ∈ bs, Byt b) : Lg.By (Lg.stp Z L us k N xs bs).2.1 (Lg.stp Z L us k N xs bs).2.2 := by
  unfold Lg.stp
  repeat' split
  · exact Lg.wrt_by h hx
  · exact Lg.mnd_by h
  · exact Lg.rwr_by h hb
  · exact h.apU Z hx
  · exact .new (h.take _).aft
  · exact h.swU Z hx
  · exact h
theorem Lg.stp_len {Z : Int} {L : List Int} {us : List Dk.U} (h : Dk.Ok Z L us) (k N : Int) (xs : List Int) (bs : List (List Int)) : (Lg.stp Z L us k N xs bs).2.2.length ≤ us.length + 16384 := by
  unfold Lg.stp
  repeat' split
  · exact Nat.le_trans (Lg.wrt_len xs) (Nat.le_add_right _ _)
  · exact Nat.le_trans Lg.mnd_len (Nat.le_add_right _ _)
  · exact Nat.le_trans (Lg.rwr_len bs) (Nat.le_add_right _ _)
  · exact Dk.apU_len h xs
  · simp
  · exact Dk.swU_len Z us xs
  · simp

/-- While a step is played on both: V the world ahead of them, Bo what was there when the round began; ip, iq: the program's call and the document's. -/
def PXe (ip iq : Nat) (w0 V : World) (Bo g gm : Nat) (Z : Int) (L : List Int) (us : List Dk.U) (L' : List Int) (us' : List Dk.U) : Say := fun Lf f W =>
  (Below w0.heap.size w0 W ∧ V.heap.size ≤ W.heap.size) ∧ (∀ b, Bo ≤ b → b < V.heap.size → W.heap[b]? = V.heap[b]?) ∧
  DPM w0 W Bo V.heap.size g gm Z (if Lf ip = true then L' else L) (if Lf ip = true then us' else us) (if Lf iq = true then L' else L) (if Lf iq = true then us' else us)
section
variable {ip iq : Nat} {w0 V W W' : World} {Bo g gm : Nat} {Z : Int} {L L' : List Int} {us us' : List Dk.U} {Lf : Nat → Bool} {f : Nat → Value}
theorem PXe.up (hV : w0.heap.size ≤ V.heap.size) {sp : List Nat} (hp : ip ∈ sp) (hq : iq ∈ sp) : ∀ (Lf Lf' : Nat → Bool) (f f' : Nat → Value) (W W' : World), (∀ j ∈ sp, Lf' j = Lf j) → (∀ s ∈ ([] : List Nat), f' s = f s) → Grows W W' → PXe ip iq w0 V Bo g gm Z L us L' us' Lf f W → PXe ip iq w0 V Bo g gm Z L us L' us' Lf' f' W' := by
  intro Lf Lf' f f' W W' hL hf hg ⟨k1, k2, k3⟩
  unfold PXe
  rw [hL ip hp, hL iq hq]
  exact ⟨⟨k1.1.trans (Below.mono hg (Nat.le_trans hV k1.2)), Nat.le_trans k1.2 (Below.size hg)⟩, fun b h1 h2 => (Below.block hg b (by have := k1.2; omega)).trans (k2 b h1 h2), k3.new hg⟩
theorem PXe.pass {i d : Nat} {v : Value} (hi : i ≠ ip ∧ i ≠ iq) (h : PXe ip iq w0 V Bo g gm Z L us L' us' Lf f W) : PXe ip iq w0 V Bo g gm Z L us L' us' (lst1 Lf i) (updT f (some d) v) W := by
  unfold PXe at *
  have e : ∀ j, j ≠ i → lst1 Lf i j = Lf j := fun j hj => by unfold lst1; rw [if_neg hj]
  rw [e ip (Ne.symm hi.1), e iq (Ne.symm hi.2)]
  exact h
theorem PXe.prog {r : Value} {fn : FuncId} {args : Array Value} (h : PXe ip iq w0 V Bo g gm Z L us L' us' Lf f W) (h2 : Lf ip = false) (hne : ip ≠ iq)
    (H : ∀ fp : Nat → Prop, PD W fp g Z L us → (∀ b, fp b → w0.heap.size ≤ b ∧ b < W.heap.size ∧ (b < Bo ∨ V.heap.size ≤ b)) → Calls Try.prog fn args W (PskPost r Z L' us' fp g W)) {d : Nat} {v : Value} :
    Calls Try.prog fn args W fun e w' => e = .returned r ∧ PXe ip iq w0 V Bo g gm Z L us L' us' (lst1 Lf ip) (updT f (some d) v) w' := by
  obtain ⟨k1, k2, k3⟩ := h
  rw [h2] at k3
  simp only [Bool.false_eq_true, if_false] at k3
  refine (k3.prog k1.1 k1.2 H).mono fun e w' ⟨he, q1, q2, q3, q4⟩ => ⟨he, ⟨q2, Nat.le_trans k1.2 q3⟩, fun b h1 h2 => (q4 b h1 h2).trans (k2 b h1 h2), ?_⟩
  simpa [lst1, Ne.symm hne] using q1
theorem PXe.doc {r : Value} {fn : FuncId} {args : Array Value} (h : PXe ip iq w0 V Bo g gm Z L us L' us' Lf f W) (h5 : Lf iq = false) (hne : ip ≠ iq)
    (H : ∀ fq : Nat → Prop, MD W fq gm Z L us → (∀ b, fq b → w0.heap.size ≤ b ∧ b < W.heap.size ∧ (b < Bo ∨ V.heap.size ≤ b)) → Calls Try.prog fn args W (DskPost r Z L' us' fq gm W)) {d : Nat} {v : Value} :
    Calls Try.prog fn args W fun e w' => e = .returned r ∧ PXe ip iq w0 V Bo g gm Z L us L' us' (lst1 Lf iq) (updT f (some d) v) w' := by
  obtain ⟨k1, k2, k3⟩ := h
  rw [h5] at k3
  simp only [Bool.false_eq_true, if_false] at k3
  refine (k3.doc k1.1 k1.2 H).mono fun e w' ⟨he, q1, q2, q3, q4⟩ => ⟨he, ⟨q2, Nat.le_trans k1.2 q3⟩, fun b h1 h2 => (q4 b h1 h2).trans (k2 b h1 h2), ?_⟩
  simpa [lst1, hne] using q1
end
section
variable {w0 W : World} {Bo Vs g gm : Nat} {Z : Int} {L : List Int} {us : List Dk.U}
theorem DPM.lread (h : DPM w0 W Bo Vs g gm Z L us L us) (hO : Dk.Ok Z L us) (hB : Lg.By L us) (hl : us.length ≤ 800000000) : Calls Try.prog 23 #[.pointer (some ⟨g, 0, none⟩)] W (LogPost (fun b => W.heap.size ≤ b) (F.all (Dk.aft L us)).1 (Lg.torn L us) W) := by
  obtain ⟨fp, fq, h1, h2, h3, h4, h5⟩ := h
  exact plread_any h1 hO hB hl
theorem DPM.rlread (h : DPM w0 W Bo Vs g gm Z L us L us) (hO : Dk.Ok Z L us) (hB : Lg.By L us) (hl : us.length ≤ 800000000) : Calls Try.prog 24 #[.pointer (some ⟨gm, 0, none⟩)] W (LogPost (fun _ => True) (F.all (Dk.aft L us)).1 (Lg.torn L us) W) := by
  obtain ⟨fp, fq, h1, h2, h3, h4, h5⟩ := h
  exact rlread_any h2 hO hB (by omega)
end
end Go.Proofs.Ytfllebfegngdhaa
