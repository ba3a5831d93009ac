/- Layer 14: how the laws hold a disk of records. -/
import Derived.Test.YtfllebfegngdhaaLgP2
import Derived.Test.YtfllebfegngdhaaDkHold
namespace Go.Proofs.Ytfllebfegngdhaa
set_option linter.unusedVariables false
set_option linter.unusedSimpArgs false
open Go.ChangeShapes Go.WideShapes Go.ChangeAt Go.RowKit Go.Deep

section
variable {w0 W W' : World} {g : Nat} {Z : Int} {L : List Int} {us : List Dk.U}
theorem DS.lwrite (h : DS w0 W g Z L us) (hl : us.length ≤ 800000000) (hb : Below W.heap.size W W') (S : Nat → Prop) (A : Option Addr) (n c : Nat) (xs : List Int) (hn : xs.length = n) (hr : Rds W' S A (u8s xs)) (hx : Byt xs) (hn47 : n ≤ 140737488355328) :
    Calls Try.prog 11 #[.pointer (some ⟨g, 0, none⟩), .slice A n c] W' (DSPost (.int .i64 (Lg.wrt Z L us xs).1) w0 W W' g Z (Lg.wrt Z L us xs).2.1 (Lg.wrt Z L us xs).2.2) := by
  obtain ⟨ho, fp, h1, h2, h3⟩ := h
  exact (plwrite_any (h1.new hb) ho hl S A n c xs hn hr hx hn47).mono fun e w' k => DS.of (Lg.wrt_ok ho xs) h2 h3 hb k
theorem DS.lmend (h : DS w0 W g Z L us) (hB : Lg.By L us) (hl : us.length ≤ 800000000) (hb : Below W.heap.size W W') :
    Calls Try.prog 13 #[.pointer (some ⟨g, 0, none⟩)] W' (DSPost (.int .i64 0) w0 W W' g Z (Lg.mnd L us).1 (Lg.mnd L us).2) := by
  obtain ⟨ho, fp, h1, h2, h3⟩ := h
  exact (plmend_any (h1.new hb) ho hB hl).mono fun e w' k => DS.of (Lg.mnd_ok ho) h2 h3 hb k
theorem DS.lrewrite (h : DS w0 W g Z L us) (hl : us.length ≤ 800000000) (hb : Below W.heap.size W W') (S : Nat → Prop) (A : Option Addr) (n c : Nat) (vs : List Value) (bs : List (List Int)) (hn : bs.length = n) (hn6 : n ≤ 1000000) (hr : Rds W' S A vs) (hbr : BRd W' S vs bs) (hx : ∀ b ∈ bs, b.length ≤ 140737488355328 ∧ Byt b) :
    Calls Try.prog 15 #[.pointer (some ⟨g, 0, none⟩), .slice A n c] W' (DSPost (.int .i64 (Lg.rwr Z L us bs).1) w0 W W' g Z (Lg.rwr Z L us bs).2.1 (Lg.rwr Z L us bs).2.2) := by
  obtain ⟨ho, fp, h1, h2, h3⟩ := h
  exact (plrewrite_any (h1.new hb) ho hl S A n c vs bs hn hn6 hr hbr hx).mono fun e w' k => DS.of (Lg.rwr_ok ho bs) h2 h3 hb k
theorem DS.lread (h : DS w0 W g Z L us) (hB : Lg.By L us) (hl : us.length ≤ 800000000) (hb : Below W.heap.size W W') :
    Calls Try.prog 23 #[.pointer (some ⟨g, 0, none⟩)] W' (LogPost (fun b => W'.heap.size ≤ b) (F.all (Dk.aft L us)).1 (Lg.torn L us) W') := by
  obtain ⟨ho, fp, h1, h2, h3⟩ := h
  exact plread_any (h1.new hb) ho hB hl
theorem DS.bel (h : DS w0 W g Z L us) : Below w0.heap.size w0 W := by obtain ⟨_, _, _, _, h⟩ := h; exact h
end
/-- Where a body has a frame and room, Write is OK. -/
theorem Lg.wrt_yes {Z : Int} {L xs : List Int} (h4 : xs.length ≤ 4096) (hz : (L.length : Int) + (F.put xs).length ≤ Z) : Lg.wrt Z L [] xs = (0, L ++ F.put xs, []) := by
  unfold Lg.wrt
  rw [if_neg (by omega), if_neg (by rw [Dk.aft_nil]; omega), Dk.aft_nil]
theorem Lg.torn_cat {bs : List (List Int)} (h : ∀ b ∈ bs, b.length ≤ 4096) : Lg.torn (F.cat bs) [] = false := by
  unfold Lg.torn
  rw [Dk.aft_nil, F.all_of_cat h]
  simp
theorem Lg.mnd_cat {bs : List (List Int)} (h : ∀ b ∈ bs, b.length ≤ 4096) : Lg.mnd (F.cat bs) [] = (F.cat bs, []) := by
  unfold Lg.mnd
  rw [Dk.aft_nil, F.all_of_cat h]
  simp
theorem Lg.part_all {bs : List (List Int)} {b : List Int} (h : ∀ x ∈ bs, x.length ≤ 4096) (hb : b.length ≤ 4096) {k : Nat} (hk : k < (F.put b).length) (hk0 : 0 < k) :
    F.all (F.cat bs ++ (F.put b).take k) = (bs, (F.cat bs).length) ∧ Lg.torn (F.cat bs ++ (F.put b).take k) [] = true ∧ Lg.mnd (F.cat bs ++ (F.put b).take k) [] = (F.cat bs, []) := by
  have h1 := F.all_part h hb hk
  have h2 : (F.cat bs).length < (F.cat bs ++ (F.put b).take k).length := by rw [List.length_append, List.length_take]; omega
  refine ⟨h1, ?_, ?_⟩
  · unfold Lg.torn
    rw [Dk.aft_nil, h1]
    simpa using h2
  · unfold Lg.mnd
    rw [Dk.aft_nil, h1, if_pos h2]
    simp
end Go.Proofs.Ytfllebfegngdhaa
