/- Contracts of layer 2 (vint), the plain ones: fresh, Put. -/
import Derived.Test.YtlckappnpdkihaaMem
import Derived.Test.YtlckappnpdkihaaVintMath
namespace Go.Proofs.Ytlckappnpdkihaa
open Go.ChangeShapes Go.WideShapes Go.ChangeAt Go.RowKit

/-- A slice value that owns these cells in memory that is new to w. -/
def OwnPost (l : List Int) (w : World) (e : Ending) (w' : World) : Prop :=
  ∃ A c, e = .returned (.slice A l.length c) ∧ w'.ownsRow w.heap.size 5 1 (.slice A l.length c) l.length (u8s l) ∧ Below w.heap.size w w'

set_option maxHeartbeats 400000 in
theorem fresh_any (S : Nat → Prop) (A : Option Addr) (c : Nat) (l : List Int) (w : World) (hr : Rds w S A (u8s l)) (hl : l.length ≤ 1000000) :
    Calls Try.prog 73 #[.slice A l.length c] w (OwnPost l w) := by
  obtain ⟨i0, hi, hz0, hz1, hz2⟩ := info_parts Try.rowU8
  go_enter Try.func73, Try.ntmps73
  go_wp2_with (at_builtin; refine wpList_app _ rfl _ _ 36 rfl w.heap.size 5 i0 (.int .u8 0) 1 Try.underlying36 hi hz0 hz1 hz2 rfl _ _ _ rfl (World.ownsRow_nil _ _ _ _) S A l.length c (u8s l) rfl (by simp) hr (one_ints _ _) (by unfold maxLen; omega) (by omega) (Nat.le_refl _) ?_)
  intro v' w1 hown hg _
  obtain ⟨A', c', rfl, _, _⟩ := own_form hown
  go_wp2
  go_ret
  refine ⟨A', c', ret_val (by simp), hown, below_gb hg⟩


/-- A reader at block g: what it has left, and how it failed; its bytes lie in block h. -/
def Rdr (w : World) (g h : Nat) (l : List Int) (e : Int) : Prop :=
  (l ≠ [] → g ≠ h) ∧ h < w.heap.size ∧ Byt l ∧ l.length ≤ 1000000 ∧ ∃ A c, Blo w g 107 #[.slice A l.length c, .int .i64 e] ∧ l.length ≤ c ∧ Rds w (· = h) A (u8s l)

theorem Rdr.keep {w w' : World} {g h : Nat} {l : List Int} {e : Int} (hr : Rdr w g h l e) (hs : w.heap.size ≤ w'.heap.size) (hg : w'.heap[g]? = w.heap[g]?) (hh : w'.heap[h]? = w.heap[h]?) : Rdr w' g h l e := by
  obtain ⟨h1, h1', h2, h3, A, c, h4, h5, h6⟩ := hr
  exact ⟨h1, Nat.lt_of_lt_of_le h1' hs, h2, h3, A, c, h4.keep hg, h5, h6.keep fun b hb _ => by subst hb; exact hh⟩
theorem Rdr.lt {w : World} {g h : Nat} {l : List Int} {e : Int} (hr : Rdr w g h l e) : g < w.heap.size := by
  obtain ⟨_, _, h2, h3, A, c, h4, h5, h6⟩ := hr
  exact h4.lt
theorem Rdr.lth {w : World} {g h : Nat} {l : List Int} {e : Int} (hr : Rdr w g h l e) : h < w.heap.size := hr.2.1
theorem Rdr.grown {w w' : World} {g h : Nat} {l : List Int} {e : Int} {row : Option Nat} (hr : Rdr w g h l e) (hb : w.grownBy w' row) (hg : some g ≠ row) (hh : some h ≠ row) : Rdr w' g h l e :=
  hr.keep hb.size (hb.block g hr.lt hg) (hb.block h hr.lth hh)
theorem Rdr.new {w w' : World} {g h : Nat} {l : List Int} {e : Int} (hr : Rdr w g h l e) (hb : Below w.heap.size w w') : Rdr w' g h l e :=
  hr.keep hb.size (hb.block g hr.lt) (hb.block h hr.lth)
theorem Rdr.alloc {w : World} {g h : Nat} {l : List Int} {e : Int} (hr : Rdr w g h l e) (o : Obj) : Rdr (w.alloc o) g h l e := hr.grown (World.grownBy_alloc w o none) (by simp) (by simp)
theorem Rdr.drewN {w : World} {g h : Nat} {l : List Int} {e : Int} (hr : Rdr w g h l e) (n : Nat) : Rdr (w.drewN n) g h l e := hr

/-- What New leaves. -/
def NewPost (l : List Int) (w : World) (e : Ending) (w' : World) : Prop :=
  ∃ g h, e = .returned (.pointer (some ⟨g, 0, none⟩)) ∧ Rdr w' g h l 0 ∧ w.heap.size ≤ g ∧ w.heap.size ≤ h ∧ Below w.heap.size w w'

theorem rdr_made {w w1 : World} {A : Option Addr} {c : Nat} {l : List Int} (hB : Byt l) (hl : l.length ≤ 1000000) (hown : w1.ownsRow w.heap.size 5 1 (.slice A l.length c) l.length (u8s l)) (hb : Below w.heap.size w w1) :
    ∃ h, Rdr (w1.alloc (.cells #[.slice A l.length c, .int .i64 0] 107)) w1.heap.size h l 0 ∧ w.heap.size ≤ h := by
  have hs := hb.size
  have hr := own_rds hown
  obtain ⟨A', c', e, hc, hnil⟩ := own_form hown
  injection e with e1 _ e3
  subst e1; subst e3
  rcases A with _ | ad
  · obtain ⟨h0, h1⟩ := hnil rfl
    have : l = [] := List.eq_nil_of_length_eq_zero h0
    subst this
    exact ⟨w1.heap.size, ⟨fun h => absurd rfl h, by simp, hB, hl, none, _, Blo.made _ _ _, by omega, Rds.nil⟩, by omega⟩
  · have hlt := hown.lt ad.block rfl
    refine ⟨ad.block, ⟨fun _ => by omega, by simp; omega, hB, hl, _, _, Blo.made _ _ _, hc, ?_⟩, by omega⟩
    exact (hr.alloc _).mono fun b hb => by have := hb.2; simp [Value.ownBlock] at this; exact this.symm

set_option maxHeartbeats 400000 in
theorem new_any (S : Nat → Prop) (A : Option Addr) (c : Nat) (l : List Int) (w : World) (hr : Rds w S A (u8s l)) (hl : l.length ≤ 1000000) (hB : Byt l) :
    Calls Try.prog 61 #[.slice A l.length c] w (NewPost l w) := by
  go_enter Try.func61, Try.ntmps61
  go_wp2_with fail
  refine (fresh_any S A c l w hr hl).mono ?_
  rintro e w1 ⟨A', c', rfl, hown, hb⟩
  go_wp2
  go_ret
  obtain ⟨h, h1, h2⟩ := rdr_made hB hl hown hb
  exact ⟨_, h, rfl, h1, hb.size, h2, hb.alloc hb.size _⟩

set_option maxHeartbeats 400000 in
theorem err_nil (w : World) : Calls Try.prog 75 #[.pointer none] w fun e w' => e = .returned (.int .i64 1) ∧ w = w' := by
  go_enter Try.func75, Try.ntmps75
  go_wp2
  go_ret
  exact ⟨rfl, rfl⟩

set_option maxHeartbeats 400000 in
theorem err_any {g h : Nat} {l : List Int} {x : Int} {w : World} (hr : Rdr w g h l x) : Calls Try.prog 75 #[.pointer (some ⟨g, 0, none⟩)] w fun e w' => e = .returned (.int .i64 x) ∧ w = w' := by
  obtain ⟨_, _, _, _, A, c, hb, _, _⟩ := hr
  have c0 := hb.cell 0
  have c1 := hb.cell 1
  simp at c0 c1
  go_enter Try.func75, Try.ntmps75
  go_wp2
  go_ret
  exact ⟨rfl, rfl⟩

set_option maxHeartbeats 400000 in
theorem left_any {g h : Nat} {l : List Int} {x : Int} {w : World} (hr : Rdr w g h l x) : Calls Try.prog 63 #[.pointer (some ⟨g, 0, none⟩)] w fun e w' => e = .returned (.int .i64 l.length) ∧ w = w' := by
  obtain ⟨_, _, _, _, A, c, hb, _, _⟩ := hr
  have c0 := hb.cell 0
  have c1 := hb.cell 1
  simp at c0 c1
  go_enter Try.func63, Try.ntmps63
  go_wp2
  go_ret
  exact ⟨rfl, rfl⟩

/-- What Put answers to a number that may be. -/
def PutPost (b : List Int) (n : Int) (w : World) (e : Ending) (w' : World) : Prop :=
  ∃ A c, e = .returned (.tuple #[.slice A (b ++ V.enc n).length c, .int .i64 0]) ∧ w'.ownsRow w.heap.size 5 1 (.slice A (b ++ V.enc n).length c) (b ++ V.enc n).length (u8s (b ++ V.enc n)) ∧ Below w.heap.size w w'

set_option maxHeartbeats 400000 in
theorem put_no (A : Option Addr) (k c : Nat) (n : Int) (w : World) (h : n < 0 ∨ 1099511627776 < n) :
    Calls Try.prog 69 #[.slice A k c, .int .i64 n] w fun e w' => e = .returned (.tuple #[.slice none 0 0, .int .i64 2]) ∧ w = w' := by
  rcases h with h | h
  · go_enter Try.func69, Try.ntmps69
    go_wp2
    go_ret2
    exact ⟨rfl, rfl⟩
  · have h0 : 0 ≤ n := by omega
    go_enter Try.func69, Try.ntmps69
    go_wp2
    go_ret2
    exact ⟨rfl, rfl⟩

end Go.Proofs.Ytlckappnpdkihaa
