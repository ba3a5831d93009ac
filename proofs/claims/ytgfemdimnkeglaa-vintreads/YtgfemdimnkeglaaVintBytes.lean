/- Contracts of layer 2's reader: Bytes and Fail; and each part of it whatever its state. -/
import Derived.Test.YtgfemdimnkeglaaVintFace
namespace Go.Proofs.Ytgfemdimnkeglaa
open Go.ChangeShapes Go.WideShapes Go.ChangeAt Go.RowKit

/-- What Bytes(n) comes to: how many bytes, and the error. -/
def V.bytes (l : List Int) (n : Int) : Nat × Int := if n < 0 then (0, 2) else if (l.length : Int) < n then (0, 3) else (n.toNat, 0)
theorem V.bytes_le (l : List Int) (n : Int) : (V.bytes l n).1 ≤ l.length := by
  unfold V.bytes
  split
  · simp
  · split
    · simp
    · simp; omega
theorem V.bytes_ok {l : List Int} {n : Int} (h : (V.bytes l n).2 = 0) : n = ((V.bytes l n).1 : Int) := by
  unfold V.bytes at h ⊢
  split
  · rename_i h1; rw [if_pos h1] at h; simp at h
  · split
    · rename_i h1 h2; rw [if_neg h1, if_pos h2] at h; simp at h
    · simp; omega
theorem V.bytes_bad {l : List Int} {n : Int} (h : (V.bytes l n).2 ≠ 0) : (V.bytes l n).1 = 0 := by
  unfold V.bytes at h ⊢
  split
  · rfl
  · split
    · rfl
    · rename_i h1 h2; rw [if_neg h1, if_neg h2] at h; exact absurd rfl h

def BytesRead (g h s : Nat) (l : List Int) (k : Nat) (W w' : World) : Prop :=
  ∃ A c, Blo w' s 22 #[.slice A k c] ∧ w'.ownsRow W.heap.size 5 1 (.slice A k c) k (u8s (l.take k)) ∧ Rdr w' g h (l.drop k) 0 ∧ ∃ w1 w2, W.grownBy w1 (some g) ∧ Below w1.heap.size w1 w2 ∧ w2.grownBy w' (some s)

set_option maxHeartbeats 1000000 in
theorem bytes1_ok {g h p q s k : Nat} {l : List Int} {w : World} (hr : Rdr w g h l 0) (hp : Blo w p 33 #[.pointer (some ⟨g, 0, none⟩)]) (hq : Blo w q 3 #[.int .i64 k]) (hs : Blo w s 22 #[.slice none 0 0]) (hk : k ≤ l.length) (hsh : s ≠ h) (Py : Int → Prop) :
    Calls Try.prog 25 #[.pointer (some ⟨p, 0, none⟩), .pointer (some ⟨q, 0, none⟩), .pointer (some ⟨s, 0, none⟩)] w (ReadPost (BytesRead g h s l k w) Py w) := by
  obtain ⟨cp, _⟩ := var_cell hp
  obtain ⟨cq, _⟩ := var_cell hq
  have hgs : g ≠ s := by obtain ⟨_, _, _, _, A, c, hb, _⟩ := hr; exact hb.typeNe hs (by decide)
  have hll : l.length ≤ 1000000 := hr.2.2.2.1
  go_enter Try.func25, Try.ntmps25
  go_wp2_with fail
  refine (pass_ok hr hk).mono ?_
  rintro e w1 ⟨A1, c1, rfl, hrd, hr1, hg1⟩
  have e1 : (l.take k).length = k := by simp; omega
  have hf := fresh_any _ A1 c1 (l.take k) w1 hrd (by omega)
  rw [e1] at hf
  clear e1
  go_wp2_with fail
  refine hf.mono ?_
  rintro e w2 ⟨A2, c2, rfl, hown2, hb2⟩
  have e1 : (l.take k).length = k := by simp; omega
  rw [e1] at hown2 ⊢
  have hs2 := (hs.grown hg1 (by simp; omega)).new hb2
  obtain ⟨cs, fs⟩ := var_cell hs2
  have hr2 := hr1.new hb2
  have hz := hg1.size
  have hsz := hs.lt
  clear hf e1
  go_wp2
  go_end0
  refine .inl ⟨rfl, A2, c2, by simpa using hs2.put 0 (.slice A2 k c2), ?_, ?_, w1, w2, hg1, hb2, gb_set (World.grownBy.refl _ _) (.inl rfl) _⟩
  · have := own_keep (w' := w2.setCell ⟨s, 0, none⟩ (.slice A2 k c2)) hown2 fun b hb _ => Below.heap_setCell _ _ _ _ (by have := (hown2.lt b hb).1; simp; omega)
    exact own_mono this hz
  · exact hr2.grown (gb_set (g := s) (World.grownBy.refl _ _) (.inl rfl) _) (by simp; omega) (by simp; omega)

set_option maxHeartbeats 1000000 in
theorem bytes1_bad {g h p q s : Nat} {l : List Int} {n : Int} {w : World} (hr : Rdr w g h l 0) (hp : Blo w p 33 #[.pointer (some ⟨g, 0, none⟩)]) (hq : Blo w q 3 #[.int .i64 n]) (hn : (V.bytes l n).2 ≠ 0) (Q : World → Prop) :
    Calls Try.prog 25 #[.pointer (some ⟨p, 0, none⟩), .pointer (some ⟨q, 0, none⟩), .pointer (some ⟨s, 0, none⟩)] w (ReadPost Q (fun y => y = (V.bytes l n).2) w) := by
  obtain ⟨cp, _⟩ := var_cell hp
  obtain ⟨cq, _⟩ := var_cell hq
  by_cases h1 : n < 0
  · have e : V.bytes l n = (0, 2) := by unfold V.bytes; rw [if_pos h1]
    rw [e]
    clear hn e
    go_enter Try.func25, Try.ntmps25
    go_wp2_with fail
    refine (pass_neg g w h1).mono ?_
    rintro e w1 ⟨rfl, rfl⟩
    go_wp2
    exact ⟨rfl, .inr ⟨_, rfl, rfl, rfl⟩⟩
  · by_cases h2 : (l.length : Int) < n
    · have e : V.bytes l n = (0, 3) := by unfold V.bytes; rw [if_neg h1, if_pos h2]
      rw [e]
      clear hn e
      go_enter Try.func25, Try.ntmps25
      go_wp2_with fail
      refine (pass_short hr h2).mono ?_
      rintro e w1 ⟨rfl, rfl⟩
      go_wp2
      exact ⟨rfl, .inr ⟨_, rfl, rfl, rfl⟩⟩
    · exfalso; unfold V.bytes at hn; rw [if_neg h1, if_neg h2] at hn; exact hn rfl

/-- What Bytes leaves. -/
def BytesPost (g h : Nat) (l : List Int) (k : Nat) (x : Int) (w : World) (e : Ending) (w' : World) : Prop :=
  ∃ A c, e = .returned (.slice A k c) ∧ w'.ownsRow w.heap.size 5 1 (.slice A k c) k (u8s (l.take k)) ∧ Rdr w' g h (l.drop k) x ∧ w.grownBy w' (some g)

theorem bytes_after {w w' : World} {g h : Nat} {l : List Int} {n : Int} {o1 o2 o3 o4 : Obj} (hr : Rdr w g h l 0) (hs : Blo ((((w.alloc o1).alloc o2).alloc o3).alloc o4) (w.heap.size + 1 + 1) 22 #[.slice none 0 0])
    (H : BytesRead g h (w.heap.size + 1 + 1) l (V.bytes l n).1 ((((w.alloc o1).alloc o2).alloc o3).alloc o4) w' ∧ (V.bytes l n).2 = 0 ∨ ∃ y, (y = (V.bytes l n).2 ∧ y ≠ 0) ∧ w' = ((((w.alloc o1).alloc o2).alloc o3).alloc o4).setCell ⟨g, 1, none⟩ (.int .i64 y)) :
    ∃ A c, Blo w' (w.heap.size + 1 + 1) 22 #[.slice A (V.bytes l n).1 c] ∧ w'.ownsRow w.heap.size 5 1 (.slice A (V.bytes l n).1 c) (V.bytes l n).1 (u8s (l.take (V.bytes l n).1)) ∧ Rdr w' g h (l.drop (V.bytes l n).1) (V.bytes l n).2 ∧ w.grownBy w' (some g) := by
  have hg0 : w.grownBy ((((w.alloc o1).alloc o2).alloc o3).alloc o4) (some g) := gb_alloc (gb_alloc (gb_alloc (gb_alloc (World.grownBy.refl w _) _) _) _) _
  rcases H with ⟨⟨A, c, hb, hown, hr1, w1, w2, hg1, hb2, hg2⟩, h0⟩ | ⟨y, ⟨rfl, hy⟩, rfl⟩
  · refine ⟨A, c, hb, own_mono hown (by simp; omega), by rw [h0]; exact hr1, gb_new (gb_new (gb_trans hg0 hg1) (gb_below hb2 none) (by simp)) hg2 fun k hk => by injection hk with hk; omega⟩
  · obtain ⟨r1, r2⟩ := rdr_fail ((((hr.alloc o1).alloc o2).alloc o3).alloc o4) (V.bytes l n).2
    have e := V.bytes_bad hy
    refine ⟨none, 0, ?_, by rw [e]; exact World.ownsRow_nil _ _ _ _, by rw [e]; exact r1, gb_trans hg0 r2⟩
    rw [e]
    exact hs.other (by have := hr.lt; simp; omega) _

theorem ReadPost.weak {Q Q' : World → Prop} {Py Py' : Int → Prop} {W w' : World} {e : Ending} (h : ReadPost Q Py W e w') (hQ : ∀ w, Q w → Q' w) (hP : ∀ y, Py y → Py' y) : ReadPost Q' Py' W e w' := by
  rcases h with ⟨rfl, h⟩ | ⟨y, rfl, h, rfl⟩
  · exact .inl ⟨rfl, hQ _ h⟩
  · exact .inr ⟨y, rfl, hP y h, rfl⟩

theorem bytes1_all {g h p q s : Nat} {l : List Int} {n : Int} {w : World} (hr : Rdr w g h l 0) (hp : Blo w p 33 #[.pointer (some ⟨g, 0, none⟩)]) (hq : Blo w q 3 #[.int .i64 n]) (hs : Blo w s 22 #[.slice none 0 0]) (hsh : s ≠ h) :
    Calls Try.prog 25 #[.pointer (some ⟨p, 0, none⟩), .pointer (some ⟨q, 0, none⟩), .pointer (some ⟨s, 0, none⟩)] w (ReadPost (fun w' => BytesRead g h s l (V.bytes l n).1 w w' ∧ (V.bytes l n).2 = 0) (fun y => y = (V.bytes l n).2 ∧ y ≠ 0) w) := by
  by_cases h0 : (V.bytes l n).2 = 0
  · have e := V.bytes_ok h0
    exact (bytes1_ok (k := (V.bytes l n).1) hr hp (by rw [← e]; exact hq) hs (V.bytes_le l n) hsh (fun _ => False)).mono fun e w' hh => hh.weak (fun w' hw => ⟨hw, h0⟩) (fun _ hf => hf.elim)
  · exact (bytes1_bad hr hp hq h0 (fun _ => False)).mono fun e w' hh => hh.weak (fun _ hf => hf.elim) (fun y hy => ⟨hy, by rw [hy]; exact h0⟩)

set_option maxHeartbeats 1000000 in
theorem bytes_any {g h : Nat} {l : List Int} {n : Int} {w : World} (hr : Rdr w g h l 0) :
    Calls Try.prog 15 #[.pointer (some ⟨g, 0, none⟩), .int .i64 n] w (BytesPost g h l (V.bytes l n).1 (V.bytes l n).2 w) := by
  have hmf : ∀ (fn : Fn) (first cap : Array Value) (w : World), (Instr.makeFunc fn first cap).run Try.prog w = .ok (.func fn first cap) w := fun _ _ _ _ => rfl
  have hs : Blo ((((w.alloc (.cells #[.pointer (some ⟨g, 0, none⟩)] 33)).alloc (.cells #[.int .i64 n] 3)).alloc (.cells #[.slice none 0 0] 22)).alloc (.cells #[.pointer (some ⟨g, 0, none⟩)] 33)) (w.heap.size + 1 + 1) 22 #[.slice none 0 0] := by
    have := (Blo.made ((w.alloc (.cells #[.pointer (some ⟨g, 0, none⟩)] 33)).alloc (.cells #[.int .i64 n] 3)) 22 #[.slice none 0 0]).alloc (.cells #[.pointer (some ⟨g, 0, none⟩)] 33)
    simpa using this
  have hp := (((Blo.made w 33 #[.pointer (some ⟨g, 0, none⟩)]).alloc (.cells #[.int .i64 n] 3)).alloc (.cells #[.slice none 0 0] 22)).alloc (.cells #[.pointer (some ⟨g, 0, none⟩)] 33)
  have hq : Blo ((((w.alloc (.cells #[.pointer (some ⟨g, 0, none⟩)] 33)).alloc (.cells #[.int .i64 n] 3)).alloc (.cells #[.slice none 0 0] 22)).alloc (.cells #[.pointer (some ⟨g, 0, none⟩)] 33)) (w.heap.size + 1) 3 #[.int .i64 n] := by
    have := ((Blo.made (w.alloc (.cells #[.pointer (some ⟨g, 0, none⟩)] 33)) 3 #[.int .i64 n]).alloc (.cells #[.slice none 0 0] 22)).alloc (.cells #[.pointer (some ⟨g, 0, none⟩)] 33)
    simpa using this
  have hr4 := (((hr.alloc (.cells #[.pointer (some ⟨g, 0, none⟩)] 33)).alloc (.cells #[.int .i64 n] 3)).alloc (.cells #[.slice none 0 0] 22)).alloc (.cells #[.pointer (some ⟨g, 0, none⟩)] 33)
  have H := bytes1_all hr4 hp hq hs (by have := hr.lth; omega)
  clear hp hq hr4
  go_enter Try.func15, Try.ntmps15
  go_wp2_with fail
  refine (face_any _ _ _ _ (.inr rfl) (((hr.alloc _).alloc _).alloc _) H).mono ?_
  rintro e w1 ⟨rfl, H1⟩
  obtain ⟨A, c, hb, hown, hr1, hg⟩ := bytes_after hr hs H1
  obtain ⟨cq, _⟩ := var_cell hb
  clear H H1 hs hb
  go_wp2
  go_ret
  exact ⟨A, c, rfl, hown, hr1, hg⟩

set_option maxHeartbeats 1000000 in
theorem bytes_failed {g h : Nat} {l : List Int} {x n : Int} {w : World} (hr : Rdr w g h l x) (hx : x ≠ 0) :
    Calls Try.prog 15 #[.pointer (some ⟨g, 0, none⟩), .int .i64 n] w fun e w' => e = .returned (.slice none 0 0) ∧ Below w.heap.size w w' := by
  have hmf : ∀ (fn : Fn) (first cap : Array Value) (w : World), (Instr.makeFunc fn first cap).run Try.prog w = .ok (.func fn first cap) w := fun _ _ _ _ => rfl
  go_enter Try.func15, Try.ntmps15
  go_wp2_with fail
  refine (face_failed _ (((hr.alloc _).alloc _).alloc _) hx).mono ?_
  rintro e w1 ⟨rfl, rfl⟩
  go_wp2
  go_ret
  exact ⟨rfl, ((((Below.refl _ _).alloc (Nat.le_refl _) _).alloc (by simp) _).alloc (by simp; omega) _).alloc (by simp; omega) _⟩

set_option maxHeartbeats 400000 in
theorem fail_any {g h : Nat} {l : List Int} {x n : Int} {w : World} (hr : Rdr w g h l x) :
    Calls Try.prog 17 #[.pointer (some ⟨g, 0, none⟩), .int .i64 n] w fun e w' => e = .returned (.tuple #[]) ∧ Rdr w' g h l (if x = 0 then n else x) ∧ w.grownBy w' (some g) := by
  have R := rdr_fail hr n
  by_cases hx : x = 0
  · subst hx
    have hr0 := hr
    obtain ⟨_, _, _, _, A, c, hb, _, _⟩ := hr
    have c1 := hb.cell 1
    have f1 := hb.frozen 1
    simp at c1
    rw [if_pos rfl]
    go_enter Try.func17, Try.ntmps17
    go_wp2_with fail
    refine (err_any hr0).mono ?_
    rintro e w1 ⟨rfl, rfl⟩
    go_wp2
    go_end0
    exact ⟨rfl, R.1, R.2⟩
  · rw [if_neg hx]
    have hx' : (x == 0) = false := by simpa using hx
    go_enter Try.func17, Try.ntmps17
    go_wp2_with fail
    refine (err_any hr).mono ?_
    rintro e w1 ⟨rfl, rfl⟩
    go_wp2
    go_end0
    exact ⟨rfl, hr, World.grownBy.refl _ _⟩

/-! ### each part, whatever the reader's state -/
/-- The answer, what is left, how it stands. -/
def V.intS (l : List Int) (x : Int) : Int × List Int × Int := if x = 0 then ((V.int l).1, l.drop (V.int l).2.1, (V.int l).2.2) else (0, l, x)
def V.bytesS (l : List Int) (x n : Int) : List Int × List Int × Int := if x = 0 then (l.take (V.bytes l n).1, l.drop (V.bytes l n).1, (V.bytes l n).2) else ([], l, x)

def IntAll (g h : Nat) (s : Int × List Int × Int) (w : World) (e : Ending) (w' : World) : Prop := e = .returned (.int .i64 s.1) ∧ Rdr w' g h s.2.1 s.2.2 ∧ w.grownBy w' (some g)
def BytesAll (g h : Nat) (s : List Int × List Int × Int) (w : World) (e : Ending) (w' : World) : Prop :=
  ∃ A c, e = .returned (.slice A s.1.length c) ∧ w'.ownsRow w.heap.size 5 1 (.slice A s.1.length c) s.1.length (u8s s.1) ∧ Rdr w' g h s.2.1 s.2.2 ∧ w.grownBy w' (some g)

theorem int_all {g h : Nat} {l : List Int} {x : Int} {w : World} (hr : Rdr w g h l x) : Calls Try.prog 13 #[.pointer (some ⟨g, 0, none⟩)] w (IntAll g h (V.intS l x) w) := by
  by_cases hx : x = 0
  · subst hx
    have e : V.intS l 0 = ((V.int l).1, l.drop (V.int l).2.1, (V.int l).2.2) := rfl
    rw [e]
    exact int_any hr
  · have e : V.intS l x = (0, l, x) := by unfold V.intS; rw [if_neg hx]
    rw [e]
    exact (int_failed hr hx).mono fun _ _ ⟨he, hb⟩ => ⟨he, hr.new hb, gb_below hb _⟩

theorem bytes_all {g h : Nat} {l : List Int} {x n : Int} {w : World} (hr : Rdr w g h l x) : Calls Try.prog 15 #[.pointer (some ⟨g, 0, none⟩), .int .i64 n] w (BytesAll g h (V.bytesS l x n) w) := by
  by_cases hx : x = 0
  · subst hx
    have e : V.bytesS l 0 n = (l.take (V.bytes l n).1, l.drop (V.bytes l n).1, (V.bytes l n).2) := rfl
    have el : (l.take (V.bytes l n).1).length = (V.bytes l n).1 := by have := V.bytes_le l n; simp; omega
    rw [e]
    refine (bytes_any hr).mono ?_
    rintro e w' ⟨A, c, rfl, h1, h2, h3⟩
    refine ⟨A, c, ?_, ?_, h2, h3⟩
    · simp only; rw [el]
    · simp only; rw [el]; exact h1
  · have e : V.bytesS l x n = ([], l, x) := by unfold V.bytesS; rw [if_neg hx]
    rw [e]
    exact (bytes_failed hr hx).mono fun _ _ ⟨he, hb⟩ => ⟨none, 0, he, World.ownsRow_nil _ _ _ _, hr.new hb, gb_below hb _⟩

end Go.Proofs.Ytgfemdimnkeglaa
