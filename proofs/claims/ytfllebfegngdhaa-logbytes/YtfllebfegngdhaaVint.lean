/- Contracts of layer 2 (vint), the plain ones: fresh, Put. | Put's contract, where the number may be. | The document's own Put: its contracts. -/
import Derived.Test.YtfllebfegngdhaaMem
import Derived.Test.YtfllebfegngdhaaDotMath
import Derived.BigQuiet
import Derived.Test.YtfllebfegngdhaaSameY

section
namespace Go.Proofs.Ytfllebfegngdhaa
open Go.ChangeShapes Go.WideShapes Go.ChangeAt Go.RowKit

/-- A slice value that owns these cells in memory that is new to w. -/
def OwnPost (l : List Int) (w : World) (e : Ending) (w' : World) : Prop :=
  ∃ A c, e = .returned (.slice A l.length c) ∧ w'.ownsRow w.heap.size 5 1 (.slice A l.length c) l.length (u8s l) ∧ Below w.heap.size w w'

set_option maxHeartbeats 400000 in
theorem fresh_any (S : Nat → Prop) (A : Option Addr) (c : Nat) (l : List Int) (w : World) (hr : Rds w S A (u8s l)) (hl : l.length ≤ 1000000) :
    Calls Try.prog 75 #[.slice A l.length c] w (OwnPost l w) := by
  obtain ⟨i0, hi, hz0, hz1, hz2⟩ := info_parts Try.rowU8
  go_enter Try.func75, Try.ntmps75
  go_wp2_with (at_builtin; refine wpList_app _ rfl _ _ 32 rfl w.heap.size 5 i0 (.int .u8 0) 1 Try.underlying32 hi hz0 hz1 hz2 rfl _ _ _ rfl (World.ownsRow_nil _ _ _ _) S A l.length c (u8s l) rfl (by simp) hr (one_ints _ _) (by unfold maxLen; omega) (by omega) (Nat.le_refl _) ?_)
  intro v' w1 hown hg _
  obtain ⟨A', c', rfl, _, _⟩ := own_form hown
  go_wp2
  go_ret
  refine ⟨A', c', ret_val (by simp), hown, below_gb hg⟩


/-- A reader at block g: what it has left, and how it failed; its bytes lie in block h. -/
def Rdr (w : World) (g h : Nat) (l : List Int) (e : Int) : Prop :=
  (l ≠ [] → g ≠ h) ∧ h < w.heap.size ∧ Byt l ∧ l.length ≤ 1000000 ∧ ∃ A c, Blo w g 104 #[.slice A l.length c, .int .i64 e] ∧ l.length ≤ c ∧ Rds w (· = h) A (u8s l)

theorem Rdr.keep {w w' : World} {g h : Nat} {l : List Int} {e : Int} (hr : Rdr w g h l e) (hs : w.heap.size ≤ w'.heap.size) (hg : w'.heap[g]? = w.heap[g]?) (hh : w'.heap[h]? = w.heap[h]?) : Rdr w' g h l e := by
  obtain ⟨h1, h1', h2, h3, A, c, h4, h5, h6⟩ := hr
  exact ⟨h1, Nat.lt_of_lt_of_le h1' hs, h2, h3, A, c, h4.keep hg, h5, h6.keep fun b hb _ => by subst hb; exact hh⟩
theorem Rdr.lt {w : World} {g h : Nat} {l : List Int} {e : Int} (hr : Rdr w g h l e) : g < w.heap.size := by
  obtain ⟨_, _, h2, h3, A, c, h4, h5, h6⟩ := hr
  exact h4.lt
theorem Rdr.lth {w : World} {g h : Nat} {l : List Int} {e : Int} (hr : Rdr w g h l e) : h < w.heap.size := hr.2.1
theorem Rdr.grown {w w' : World} {g h : Nat} {l : List Int} {e : Int} {row : Option Nat} (hr : Rdr w g h l e) (hb : w.grownBy w' row) (hg : some g ≠ row) (hh : some h ≠ row) : Rdr w' g h l e :=
  hr.keep hb.size (hb.block g hr.lt hg) (hb.block h hr.lth hh)
theorem Rdr.new {w w' : World} {g h : Nat} {l : List Int} {e : Int} (hr : Rdr w g h l e) (hb : Below w.heap.size w w') : Rdr w' g h l e :=
  hr.keep hb.size (hb.block g hr.lt) (hb.block h hr.lth)
theorem Rdr.alloc {w : World} {g h : Nat} {l : List Int} {e : Int} (hr : Rdr w g h l e) (o : Obj) : Rdr (w.alloc o) g h l e := hr.grown (World.grownBy_alloc w o none) (by simp) (by simp)
theorem Rdr.drewN {w : World} {g h : Nat} {l : List Int} {e : Int} (hr : Rdr w g h l e) (n : Nat) : Rdr (w.drewN n) g h l e := hr

/-- What New leaves. -/
def NewPost (l : List Int) (w : World) (e : Ending) (w' : World) : Prop :=
  ∃ g h, e = .returned (.pointer (some ⟨g, 0, none⟩)) ∧ Rdr w' g h l 0 ∧ w.heap.size ≤ g ∧ w.heap.size ≤ h ∧ Below w.heap.size w w'

theorem rdr_made {w w1 : World} {A : Option Addr} {c : Nat} {l : List Int} (hB : Byt l) (hl : l.length ≤ 1000000) (hown : w1.ownsRow w.heap.size 5 1 (.slice A l.length c) l.length (u8s l)) (hb : Below w.heap.size w w1) :
    ∃ h, Rdr (w1.alloc (.cells #[.slice A l.length c, .int .i64 0] 104)) w1.heap.size h l 0 ∧ w.heap.size ≤ h := by
  have hs := hb.size
  have hr := own_rds hown
  obtain ⟨A', c', e, hc, hnil⟩ := own_form hown
  injection e with e1 _ e3
  subst e1; subst e3
  rcases A with _ | ad
  · obtain ⟨h0, h1⟩ := hnil rfl
    have : l = [] := List.eq_nil_of_length_eq_zero h0
    subst this
    exact ⟨w1.heap.size, ⟨fun h => absurd rfl h, by simp, hB, hl, none, _, Blo.made _ _ _, by omega, Rds.nil⟩, by omega⟩
  · have hlt := hown.lt ad.block rfl
    refine ⟨ad.block, ⟨fun _ => by omega, by simp; omega, hB, hl, _, _, Blo.made _ _ _, hc, ?_⟩, by omega⟩
    exact (hr.alloc _).mono fun b hb => by have := hb.2; simp [Value.ownBlock] at this; exact this.symm

set_option maxHeartbeats 400000 in
theorem new_any (S : Nat → Prop) (A : Option Addr) (c : Nat) (l : List Int) (w : World) (hr : Rds w S A (u8s l)) (hl : l.length ≤ 1000000) (hB : Byt l) :
    Calls Try.prog 71 #[.slice A l.length c] w (NewPost l w) := by
  go_enter Try.func71, Try.ntmps71
  go_wp2_with fail
  refine (fresh_any S A c l w hr hl).mono ?_
  rintro e w1 ⟨A', c', rfl, hown, hb⟩
  go_wp2
  go_ret
  obtain ⟨h, h1, h2⟩ := rdr_made hB hl hown hb
  exact ⟨_, h, rfl, h1, hb.size, h2, hb.alloc hb.size _⟩

set_option maxHeartbeats 400000 in
theorem err_nil (w : World) : Calls Try.prog 74 #[.pointer none] w fun e w' => e = .returned (.int .i64 1) ∧ w = w' := by
  go_enter Try.func74, Try.ntmps74
  go_wp2
  go_ret
  exact ⟨rfl, rfl⟩

set_option maxHeartbeats 400000 in
theorem err_any {g h : Nat} {l : List Int} {x : Int} {w : World} (hr : Rdr w g h l x) : Calls Try.prog 74 #[.pointer (some ⟨g, 0, none⟩)] w fun e w' => e = .returned (.int .i64 x) ∧ w = w' := by
  obtain ⟨_, _, _, _, A, c, hb, _, _⟩ := hr
  have c0 := hb.cell 0
  have c1 := hb.cell 1
  simp at c0 c1
  go_enter Try.func74, Try.ntmps74
  go_wp2
  go_ret
  exact ⟨rfl, rfl⟩

set_option maxHeartbeats 400000 in
theorem left_any {g h : Nat} {l : List Int} {x : Int} {w : World} (hr : Rdr w g h l x) : Calls Try.prog 72 #[.pointer (some ⟨g, 0, none⟩)] w fun e w' => e = .returned (.int .i64 l.length) ∧ w = w' := by
  obtain ⟨_, _, _, _, A, c, hb, _, _⟩ := hr
  have c0 := hb.cell 0
  have c1 := hb.cell 1
  simp at c0 c1
  go_enter Try.func72, Try.ntmps72
  go_wp2
  go_ret
  exact ⟨rfl, rfl⟩

/-- What Put answers to a number that may be. -/
def PutPost (b : List Int) (n : Int) (w : World) (e : Ending) (w' : World) : Prop :=
  ∃ A c, e = .returned (.tuple #[.slice A (b ++ V.enc n).length c, .int .i64 0]) ∧ w'.ownsRow w.heap.size 5 1 (.slice A (b ++ V.enc n).length c) (b ++ V.enc n).length (u8s (b ++ V.enc n)) ∧ Below w.heap.size w w'

set_option maxHeartbeats 400000 in
theorem put_no (A : Option Addr) (k c : Nat) (n : Int) (w : World) (h : n < 0 ∨ 1099511627776 < n) :
    Calls Try.prog 60 #[.slice A k c, .int .i64 n] w fun e w' => e = .returned (.tuple #[.slice none 0 0, .int .i64 2]) ∧ w = w' := by
  rcases h with h | h
  · go_enter Try.func60, Try.ntmps60
    go_wp2
    go_ret2
    exact ⟨rfl, rfl⟩
  · have h0 : 0 ≤ n := by omega
    go_enter Try.func60, Try.ntmps60
    go_wp2
    go_ret2
    exact ⟨rfl, rfl⟩

end Go.Proofs.Ytfllebfegngdhaa
end

section
namespace Go.Proofs.Ytfllebfegngdhaa
open Go.ChangeShapes Go.WideShapes Go.ChangeAt Go.RowKit

theorem lit_rds (w : World) (l : List Int) (k : IntKind) (t : TypeId) : Rds (w.alloc (.cells (l.map (Value.int k)).toArray t)) (fun _ => True) (some ⟨w.heap.size, 0, none⟩) (l.map (Value.int k)) := by
  intro j u hu
  refine ⟨_, rfl, trivial, ?_⟩
  rw [M.addMk, Nat.zero_add, (Blo.made w t _).cell]
  simpa using hu

/-- What one append of one number does to what Put has so far. -/
theorem put_step {w wr w1 : World} {b pre : List Int} {v v' : Value} {x : Int} {o : Obj}
    (hown : wr.ownsRow w.heap.size 5 1 v (b ++ pre).length (u8s (b ++ pre))) (hb : Below w.heap.size w wr)
    {n' : Nat} {xs' : List Value} (hown' : w1.ownsRow w.heap.size 5 1 v' n' xs') (hn : n' = (b ++ pre).length + 1) (hx : xs' = u8s (b ++ pre) ++ [.int .u8 x]) (hg : (wr.alloc o).grownBy w1 v.ownBlock) :
    w1.ownsRow w.heap.size 5 1 v' (b ++ (pre ++ [x])).length (u8s (b ++ (pre ++ [x]))) ∧ Below w.heap.size w w1 := by
  constructor
  · have e1 : (b ++ (pre ++ [x])).length = (b ++ pre).length + 1 := by simp; omega
    have e2 : u8s (b ++ (pre ++ [x])) = u8s (b ++ pre) ++ [.int .u8 x] := by simp
    rw [e1, e2, ← hn, ← hx]; exact hown'
  · refine (hb.alloc hb.size o).grown hg (by have := hb.size; simp; omega) fun k hk => (hown.lt k hk).1

set_option maxRecDepth 100000 in
set_option maxHeartbeats 1000000 in
theorem put_yes (S : Nat → Prop) (A : Option Addr) (c : Nat) (b : List Int) (n : Int) (w : World) (hr : Rds w S A (u8s b)) (hl : b.length ≤ 1000000) (h0 : 0 ≤ n) (h1 : n ≤ 1099511627776) :
    Calls Try.prog 60 #[.slice A b.length c, .int .i64 n] w (PutPost b n w) := by
  obtain ⟨i0, hi, hz0, hz1, hz2⟩ := info_parts Try.rowU8
  have h6 := V.enc_len6 h1
  go_enter Try.func60, Try.ntmps60
  go_wp2_with (at_make; refine wpList_make_own _ rfl _ _ 32 rfl w.heap.size 5 i0 (.int .u8 0) 1 Try.underlying32 hi hz0 hz1 _ _ _ (b.length + 6) rfl rfl (by omega) (by rw [hz2]; omega) (by unfold maxLen; omega) (Nat.le_refl _) ?_)
  intro w1 hown1 hg1
  have hr1 := hr.new (below_gb hg1)
  have hs1 := hg1.size
  go_wp2_with (at_builtin; refine wpList_app _ rfl _ _ 32 rfl w.heap.size 5 i0 (.int .u8 0) 1 Try.underlying32 hi hz0 hz1 hz2 rfl _ _ _ rfl hown1 S A b.length c (u8s b) rfl (by simp) hr1 (one_ints _ _) (by unfold maxLen; omega) (by omega) hs1 ?_)
  intro v2 w2 hown2 hg2 _
  have hb2 : Below w.heap.size w w2 := (below_gb hg1).grown hg2 hs1 fun k hk => by simp [Value.ownBlock] at hk; omega
  have Hown2 : w2.ownsRow w.heap.size 5 1 v2 (b ++ []).length (u8s (b ++ [])) := by simpa using hown2
  clear hown2 hg2 hg1 hown1 hr1 hs1
  go_wp2
  go_loopw [1, 6] (fun nv v wr => ∃ (m : Int) (pre : List Int), nv = .int .i64 m ∧ 0 ≤ m ∧ m ≤ n ∧ Hid (V.enc n = pre ++ V.enc m) ∧ wr.ownsRow w.heap.size 5 1 v (b ++ pre).length (u8s (b ++ pre)) ∧ Below w.heap.size w wr) (fun nv _ _ => (intOf nv).toNat)
  case atStart => exact ⟨n, [], rfl, h0, Int.le_refl _, rfl, Hown2, hb2⟩
  case round =>
    obtain ⟨m, pre, rfl, hm0, hm1, HE, hown, hb⟩ := hrel
    have hp : pre.length ≤ 6 := by have := congrArg List.length HE.out; simp at this; omega
    have hp2 : (b ++ pre).length ≤ 1000006 := by simp; omega
    have hsz := hb.size
    by_cases hlt : 128 ≤ m
    · go_wp2_with (at_builtin; refine wpList_app _ rfl _ _ 32 rfl w.heap.size 5 i0 (.int .u8 0) 1 Try.underlying32 hi hz0 hz1 hz2 rfl _ _ _ rfl (hown.alloc _) _ _ 1 1 [.int .u8 (m % 128 + 128)] rfl rfl (one_rds _ _ _ _) (one_ints _ [_]) (by unfold maxLen; omega) (by omega) (by simp; omega) ?_)
      intro v' w1' hown' hg' _
      have R := put_step (x := m % 128 + 128) hown hb hown' (by simp) (by simp) hg'
      clear hown' hg' hown hb
      go_wp2
      go_roundw
      case rel => exact ⟨m / 128, pre ++ [m % 128 + 128], rfl, by omega, by omega, by have := HE.out; rw [V.enc_big hlt] at this; exact this.trans (by simp), R.1, R.2⟩
      case measure => simp [intOf]; omega
    · go_wp2_with (at_builtin; refine wpList_app _ rfl _ _ 32 rfl w.heap.size 5 i0 (.int .u8 0) 1 Try.underlying32 hi hz0 hz1 hz2 rfl _ _ _ rfl (hown.alloc _) _ _ 1 1 [.int .u8 m] rfl rfl (one_rds _ _ _ _) (one_ints _ [_]) (by unfold maxLen; omega) (by omega) (by simp; omega) ?_)
      intro v' w1' hown' hg' _
      have R := put_step (x := m) hown hb hown' (by simp) (by simp) hg'
      have HE2 : Hid (V.enc n = pre ++ [m]) := by have := HE.out; rw [V.enc_small (n := m) (by omega)] at this; exact this
      clear hown' hg' hown hb HE
      obtain ⟨A', c', rfl, _, _⟩ := own_form R.1
      go_wp2
      go_ret2
      refine ⟨A', c', ret_val (by rw [HE2.out]; simp), ?_, R.2⟩
      rw [HE2.out]; exact R.1

end Go.Proofs.Ytfllebfegngdhaa
end

section
namespace Go.Proofs.Ytfllebfegngdhaa
open Go.ChangeShapes Go.WideShapes Go.ChangeAt Go.RowKit

set_option maxHeartbeats 400000 in
theorem rput_no (A : Option Addr) (k c : Nat) (n : Int) (w : World) (h : n < 0 ∨ 1099511627776 < n) :
    Calls Try.prog 49 #[.slice A k c, .int .i64 n] w fun e w' => e = .returned (.tuple #[.slice none 0 0, .int .i64 2]) ∧ w = w' := by
  rcases h with h | h
  · go_enter Try.func49, Try.ntmps49
    go_wp2
    go_ret2
    exact ⟨rfl, rfl⟩
  · have h0 : 0 ≤ n := by omega
    go_enter Try.func49, Try.ntmps49
    go_wp2
    go_ret2
    exact ⟨rfl, rfl⟩

set_option maxRecDepth 100000 in
set_option maxHeartbeats 1000000 in
theorem rput_yes (S : Nat → Prop) (A : Option Addr) (c : Nat) (b : List Int) (n : Int) (w : World) (hr : Rds w S A (u8s b)) (hl : b.length ≤ 1000000) (h0 : 0 ≤ n) (h1 : n ≤ 1099511627776) :
    Calls Try.prog 49 #[.slice A b.length c, .int .i64 n] w (PutPost b n w) := by
  obtain ⟨i0, hi, hz0, hz1, hz2⟩ := info_parts Try.rowU8
  have h6 := V.enc_len6 h1
  go_enter Try.func49, Try.ntmps49
  have hown1 : (w.alloc (.cells #[] 5)).ownsRow w.heap.size 5 1 (.slice (some ⟨w.heap.size, 0, none⟩) 0 0) 0 [] := World.ownsRow_lit w #[] 0 (Nat.le_refl _) (by unfold maxLen; omega) rfl
  have hg1 : w.grownBy (w.alloc (.cells #[] 5)) none := World.grownBy_alloc _ _ _
  have hr1 := hr.new (below_gb hg1)
  have hs1 := hg1.size
  go_wp2_with (at_builtin; refine wpList_app _ rfl _ _ 32 rfl w.heap.size 5 i0 (.int .u8 0) 1 Try.underlying32 hi hz0 hz1 hz2 rfl _ _ _ rfl hown1 S A b.length c (u8s b) rfl (by simp) hr1 (one_ints _ _) (by unfold maxLen; omega) (by omega) hs1 ?_)
  intro v2 w2 hown2 hg2 _
  have hb2 : Below w.heap.size w w2 := (below_gb hg1).grown hg2 hs1 fun k hk => by simp [Value.ownBlock] at hk; omega
  have Hown2 : w2.ownsRow w.heap.size 5 1 v2 (b ++ []).length (u8s (b ++ [])) := by simpa using hown2
  clear hown2 hg2 hg1 hown1 hr1 hs1
  go_wp2
  go_loopw [1, 6] (fun nv v wr => ∃ (m : Int) (pre : List Int), nv = .int .i64 m ∧ 0 ≤ m ∧ m ≤ n ∧ Hid (V.enc n = pre ++ V.enc m) ∧ wr.ownsRow w.heap.size 5 1 v (b ++ pre).length (u8s (b ++ pre)) ∧ Below w.heap.size w wr) (fun nv _ _ => (intOf nv).toNat)
  case atStart => exact ⟨n, [], rfl, h0, Int.le_refl _, rfl, Hown2, hb2⟩
  case round =>
    obtain ⟨m, pre, rfl, hm0, hm1, HE, hown, hb⟩ := hrel
    have hp : pre.length ≤ 6 := by have := congrArg List.length HE.out; simp at this; omega
    have hp2 : (b ++ pre).length ≤ 1000006 := by simp; omega
    have hsz := hb.size
    by_cases hlt : 128 ≤ m
    · go_wp2_with (at_builtin; refine wpList_app _ rfl _ _ 32 rfl w.heap.size 5 i0 (.int .u8 0) 1 Try.underlying32 hi hz0 hz1 hz2 rfl _ _ _ rfl (hown.alloc _) _ _ 1 1 [.int .u8 (128 + m % 128)] rfl rfl (one_rds _ _ _ _) (one_ints _ [_]) (by unfold maxLen; omega) (by omega) (by simp; omega) ?_)
      intro v' w1' hown' hg' _
      have R := put_step (x := 128 + m % 128) hown hb hown' (by simp) (by simp) hg'
      clear hown' hg' hown hb
      go_wp2
      go_roundw
      case rel => exact ⟨m / 128, pre ++ [128 + m % 128], rfl, by omega, by omega, by have := HE.out; rw [V.enc_big hlt, Int.add_comm (m % 128) 128] at this; exact this.trans (by simp), R.1, R.2⟩
      case measure => simp [intOf]; omega
    · go_wp2_with (at_builtin; refine wpList_app _ rfl _ _ 32 rfl w.heap.size 5 i0 (.int .u8 0) 1 Try.underlying32 hi hz0 hz1 hz2 rfl _ _ _ rfl (hown.alloc _) _ _ 1 1 [.int .u8 m] rfl rfl (one_rds _ _ _ _) (one_ints _ [_]) (by unfold maxLen; omega) (by omega) (by simp; omega) ?_)
      intro v' w1' hown' hg' _
      have R := put_step (x := m) hown hb hown' (by simp) (by simp) hg'
      have HE2 : Hid (V.enc n = pre ++ [m]) := by have := HE.out; rw [V.enc_small (n := m) (by omega)] at this; exact this
      clear hown' hg' hown hb HE
      obtain ⟨A', c', rfl, _, _⟩ := own_form R.1
      go_wp2
      go_ret2
      refine ⟨A', c', ret_val (by rw [HE2.out]; simp), ?_, R.2⟩
      rw [HE2.out]; exact R.1

end Go.Proofs.Ytfllebfegngdhaa
end
