/- The document's own reader: Bytes. -/
import Derived.Test.YtgfemdimnkeglaaVintRefRd
import Derived.Deep.RegionHeld3
import Derived.Deep.AppendLies
namespace Go.Proofs.Ytgfemdimnkeglaa
open Go.ChangeShapes Go.WideShapes Go.ChangeAt Go.RowKit

/-- append in a region that draws its order. -/
theorem step_app {P : Program} {w : World} {ops : Array Oper} {o : Oper} {a : Act} {K : Act → World → Prop} {Q : Exit → Act → World → Prop} {E : Prop} (hgd : o.guard = none) (s x : Operand) (t : TypeId)
    (ho : o.op = .call { callee := .builtin .append, args := #[s, x], argTypes := #[t, t] })
    (base : Nat) (e : TypeId) (i : TypeInfo) (z : Value) (bytes : Nat) (ht : P.underlying t = some (.slice e)) (hi : P.info? e = some i) (hz : i.zero = some z)
    (hsize : i.size = 1) (hby : i.bytes = bytes) (hzs : z.cells.size = 1)
    (v : Value) (n : Nat) (xs : List Value) (hs : a.eval s = v) (hown : w.ownsRow base e 1 v n xs)
    (S : Nat → Prop) (A : Option Addr) (m c : Nat) (news : List Value) (hx : a.eval x = .slice A m c) (hm : news.length = m) (hr : Rds w S A news) (h1 : ∀ u ∈ news, u.oneCell' = true)
    (h63 : n + m ≤ maxLen) (hbytes : (n + m) * bytes ≤ 140737488355328) (hbase : base ≤ w.heap.size)
    (h : ∀ v' w', w'.ownsRow base e 1 v' (n + m) (xs ++ news) → w.grownBy w' v.ownBlock → (v'.ownBlock = v.ownBlock ∨ v'.ownBlock = some w.heap.size) → K (a.put o.dst v') w') :
    if Region.wanted o (yielded ops a.tmps) = true then Oper.wp P o a w K Q else E := by
  have hw : Region.wanted o (yielded ops a.tmps) = true := by simp [Region.wanted, hgd]
  rw [if_pos hw]
  obtain ⟨v', w', hrun, h2, h3, h4⟩ := run_app (P := P) w base t o.type e i z bytes ht hi hz hsize hby hzs v n xs hown S A m c news hm hr h1 h63 hbytes hbase
  unfold Oper.wp execOp
  simp only [ho, resolve, invoke, builtin, Sem.run_bind, Sem.run_pure, Result.andThen_ok, List.map_toArray, List.map_cons, List.map_nil, hs, hx, hrun]
  exact h v' w' h2 h3 h4

theorem Try.sizeU8' : (Try.prog.info? 5).map (·.size) = some 1 := by kernel_rfl

/-- s[p:q] of whatever slice, its address by a name. -/
theorem run_cut {P : Program} (t e : TypeId) (ht : P.underlying t = some (.slice e)) (hs : (P.info? e).map (·.size) = some 1) (A : Option Addr) (n c p q : Nat) (h1 : p ≤ q) (h2 : q ≤ c) (W : World) :
    (Instr.slice t (.slice A n c) (some (.int .i64 (p : Int))) (some (.int .i64 (q : Int))) none).run P W = .ok (.slice (if c = p then A else A.map (·.add p)) (q - p) (c - p)) W := by
  have hel : P.elem t = e := by simp [Program.elem, ht]
  have hz : (sizeOf e).run P W = .ok 1 W := by
    cases hi : P.info? e with
    | none => rw [hi] at hs; cases hs
    | some i => rw [hi] at hs; simp at hs; simp [sizeOf, typeInfo, hi, hs]
  rw [run_slice_lh W t A n c (by rw [hel]; exact ht) .i64 .i64 _ _ (by omega) (by omega) (by omega), hel, hz]
  simp [sliced]

/-- What the document's Bytes leaves. -/
def RBytesPost (g h : Nat) (L : List Int) (p : Nat) (k : Nat) (x : Int) (w : World) (e : Ending) (w' : World) : Prop :=
  ∃ A c, e = .returned (.slice A k c) ∧ w'.ownsRow w.heap.size 5 1 (.slice A k c) k (u8s ((L.drop p).take k)) ∧ Mr w' g h L (p + k) x ∧ w.grownBy w' (some g)

set_option maxHeartbeats 1000000 in
theorem rbytes_neg {g h p : Nat} {L : List Int} {n : Int} {w : World} (hr : Mr w g h L p 0) (hn : n < 0) :
    Calls Try.prog 16 #[.pointer (some ⟨g, 0, none⟩), .int .i64 n] w (RBytesPost g h L p 0 2 w) := by
  have R := hr.setE 2
  obtain ⟨A, c, z0, z1, z2, y1, y2, hc, hrr⟩ := hr.cells
  go_enter Try.func16, Try.ntmps16
  go_wp2
  go_ret
  exact ⟨none, 0, rfl, World.ownsRow_nil _ _ _ _, R.1, R.2⟩

set_option maxHeartbeats 1000000 in
theorem rbytes_short {g h p : Nat} {L : List Int} {n : Int} {w : World} (hr : Mr w g h L p 0) (h0 : 0 ≤ n) (hn : (L.length : Int) - p < n) :
    Calls Try.prog 16 #[.pointer (some ⟨g, 0, none⟩), .int .i64 n] w (RBytesPost g h L p 0 3 w) := by
  have hp := hr.2.2.2.2.1
  have hL := hr.2.2.2.1
  obtain ⟨A, c, z0, z1, z2, y1, y2, hc, hrr⟩ := hr.cells
  have s1 : IntKind.i64.wrap ((L.length : Int) - (p : Int)) = (L.length : Int) - (p : Int) := IntWalk.i64_in _ (by omega)
  have s2 : decide ((L.length : Int) - (p : Int) < n) = true := decide_eq_true hn
  go_enter Try.func16, Try.ntmps16
  go_wp2
  go_quiet (fail)
  go_wp2
  go_ret
  have hd : Drew w (w.drewN nq) := (Drew.refl w).more nq
  have R := (hr.drew hd).setE 3
  exact ⟨none, 0, rfl, World.ownsRow_nil _ _ _ _, R.1, gb_trans (hd.gb _) R.2⟩

set_option maxHeartbeats 1000000 in
theorem rbytes_ok {g h p k : Nat} {L : List Int} {w : World} (hr : Mr w g h L p 0) (hn : p + k ≤ L.length) :
    Calls Try.prog 16 #[.pointer (some ⟨g, 0, none⟩), .int .i64 k] w (RBytesPost g h L p k 0 w) := by
  obtain ⟨i0, hi, hz0, hz1, hz2⟩ := info_parts Try.rowU8
  have hL := hr.2.2.2.1
  obtain ⟨A, c, z0, z1, z2, y1, y2, hc, hrr⟩ := hr.cells
  obtain ⟨A', hA'⟩ : ∃ A', A' = if c = p then A else A.map (·.add p) := ⟨_, rfl⟩
  have hrd : Rds w (· = h) A' (u8s ((L.drop p).take k)) := by
    have := (Rds.cut (k := p) (c := c) hrr (by simpa using hc)).take k
    rw [← List.map_drop, ← List.map_take, ← hA'] at this
    exact this
  have hsl : ∀ W : World, (Instr.slice 22 (.slice A L.length c) (some (.int .i64 (p : Int))) (some (.int .i64 ((p : Int) + (k : Int)))) none).run Try.prog W = .ok (.slice A' k (c - p)) W := fun W => by
    have := run_cut (P := Try.prog) 22 5 Try.underlying22 Try.sizeU8' A L.length c p (p + k) (by omega) (by omega) W
    rw [← hA', show p + k - p = k by omega] at this
    simpa using this
  have s1 : IntKind.i64.wrap ((L.length : Int) - (p : Int)) = (L.length : Int) - (p : Int) := IntWalk.i64_in _ (by omega)
  have s2 : decide ((L.length : Int) - (p : Int) < (k : Int)) = false := decide_eq_false (by omega)
  have s3 : IntKind.i64.wrap ((p : Int) + (k : Int)) = (p : Int) + (k : Int) := IntWalk.i64_in _ (by omega)
  have hlt := hr.lt
  clear hA'
  go_enter Try.func16, Try.ntmps16
  go_wp2
  go_quiet (fail)
  go_wp2
  obtain ⟨W, hd, hW⟩ : ∃ W, Drew w W ∧ w.drewN nq = W := ⟨_, (Drew.refl w).more nq, rfl⟩
  rw [hW]
  have hrd1 : Rds W (· = h) A' (u8s ((L.drop p).take k)) := hd.rds hrd
  have z0' : W.cell? ⟨g, 0, none⟩ = some (.slice A L.length c) := by rw [← hW]; exact z0
  have z1' : W.cell? ⟨g, 1, none⟩ = some (.int .i64 p) := by rw [← hW]; exact z1
  have hz' : W.heap.size = w.heap.size := by rw [← hW]; rfl
  have hgl : g < W.heap.size := by omega
  have HZ := Lib.hid hz'
  clear hW z0 z1 z2 y1 y2 hrd hz' s1 s2
  have hown0 : (W.alloc (.cells #[] 5)).drew.ownsRow W.heap.size 5 1 (.slice (some ⟨W.heap.size, 0, none⟩) 0 0) 0 [] := (World.ownsRow_lit W #[] 0 (Nat.le_refl _) (by unfold maxLen; omega) rfl).drew
  have hrd2 : Rds (W.alloc (.cells #[] 5)).drew (· = h) A' (u8s ((L.drop p).take k)) := hrd1.alloc _
  have hkl : ((L.drop p).take k).length = k := by simp; omega
  go_region_held3 (fun w' => w'.cell? ⟨g, 0, none⟩ = some (.slice A L.length c) ∧ w'.cell? ⟨g, 1, none⟩ = some (.int .i64 p))
    (first
      | go_keep
      | (go_split_ands
         refine ⟨?_, ?_⟩
         · (rw [hgrow.cell_far _ (by simp; omega) (by simp [Value.ownBlock]; omega)]; assumption)
         · (rw [hgrow.cell_far _ (by simp; omega) (by simp [Value.ownBlock]; omega)]; assumption)))
    ((refine step_app (by rfl) _ _ _ (by rfl) W.heap.size 5 i0 (.int .u8 0) 1 Try.underlying22 hi hz0 hz1 hz2 rfl _ _ _ (by rfl) hown0 (· = h) A' k (c - p) (u8s ((L.drop p).take k)) (by rfl) (by simp; omega) hrd2 (one_ints _ _) (by unfold maxLen; omega) (by omega) (by simp) ?_; intro v1 w1 hown1 hgrow _))
  have hb1 : Below W.heap.size W w1 := (((Below.refl _ _).alloc (Nat.le_refl _) _).drew).grown hgrow (by simp) (fun k hk => by simp [Value.ownBlock] at hk; omega)
  have hr1 := (hr.drew hd).new hb1
  have R := hr1.setAt (q := p + k) hn
  have ec : ((p + k : Nat) : Int) = (p : Int) + (k : Int) := by omega
  rw [ec] at R
  obtain ⟨A2, c2, z0, z1, z2, y1, y2, _, _⟩ := hr1.cells
  obtain ⟨A1, c1, rfl, _, _⟩ := own_form hown1
  simp only [Nat.zero_add, List.nil_append] at hown1
  have hlt1 : ∀ b, (Value.slice A1 k c1).ownBlock = some b → W.heap.size ≤ b := fun b hb => by
    have := hown1.lt b (by simpa using hb)
    exact this.1
  have HL := Lib.hid hlt1
  have HOWN := hown1
  clear hgrow ec s3 hsl hown0 hrd2 hrd1 hown1 hlt1 z0' z1'
  go_wp2
  go_ret
  refine ⟨A1, c1, ret_val (by simp), ?_, R.1, gb_trans (gb_trans (hd.gb _) (gb_below hb1 _)) R.2⟩
  rw [← HZ.out]
  exact own_keep (by simpa using HOWN) fun b hb _ => Below.heap_setCell _ _ _ _ (by have := HL.out b hb; simp; omega)

set_option maxHeartbeats 1000000 in
theorem rbytes_failed {g h p : Nat} {L : List Int} {x n : Int} {w : World} (hr : Mr w g h L p x) (hx : x ≠ 0) :
    Calls Try.prog 16 #[.pointer (some ⟨g, 0, none⟩), .int .i64 n] w fun e w' => e = .returned (.slice none 0 0) ∧ w = w' := by
  obtain ⟨A, c, z0, z1, z2, y1, y2, hc, hrr⟩ := hr.cells
  have hx' : (x != 0) = true := by simpa using hx
  go_enter Try.func16, Try.ntmps16
  go_wp2
  go_ret
  exact ⟨rfl, rfl⟩

set_option maxHeartbeats 1000000 in
theorem rint_failed {g h p : Nat} {L : List Int} {x : Int} {w : World} (hr : Mr w g h L p x) (hx : x ≠ 0) :
    Calls Try.prog 14 #[.pointer (some ⟨g, 0, none⟩)] w fun e w' => e = .returned (.int .i64 0) ∧ w = w' := by
  obtain ⟨A, c, z0, z1, z2, y1, y2, hc, hrr⟩ := hr.cells
  have hx' : (x != 0) = true := by simpa using hx
  go_enter Try.func14, Try.ntmps14
  go_wp2
  go_ret
  exact ⟨rfl, rfl⟩

/-! ### each part, whatever the reader's state: the document's reader stands as a list that is left -/
/-- The document's reader with what it has left. -/
def Ml (w : World) (g h : Nat) (L l : List Int) (x : Int) : Prop := ∃ p, Mr w g h L p x ∧ L.drop p = l
section
variable {w w' : World} {g h : Nat} {L l : List Int} {x : Int}
theorem Ml.grown {row : Option Nat} (hr : Ml w g h L l x) (hb : w.grownBy w' row) (hg : some g ≠ row) (hh : some h ≠ row) : Ml w' g h L l x := by
  obtain ⟨p, hr, e⟩ := hr
  exact ⟨p, hr.grown hb hg hh, e⟩
theorem Ml.new (hr : Ml w g h L l x) (hb : Below w.heap.size w w') : Ml w' g h L l x := by
  obtain ⟨p, hr, e⟩ := hr
  exact ⟨p, hr.new hb, e⟩
theorem Ml.lt (hr : Ml w g h L l x) : g < w.heap.size := by obtain ⟨p, hr, e⟩ := hr; exact hr.lt
theorem Ml.lth (hr : Ml w g h L l x) : h < w.heap.size := by obtain ⟨p, hr, e⟩ := hr; exact hr.lth
end

def RIntAll (g h : Nat) (L : List Int) (s : Int × List Int × Int) (w : World) (e : Ending) (w' : World) : Prop := e = .returned (.int .i64 s.1) ∧ Ml w' g h L s.2.1 s.2.2 ∧ w.grownBy w' (some g)
def RBytesAll (g h : Nat) (L : List Int) (s : List Int × List Int × Int) (w : World) (e : Ending) (w' : World) : Prop :=
  ∃ A c, e = .returned (.slice A s.1.length c) ∧ w'.ownsRow w.heap.size 5 1 (.slice A s.1.length c) s.1.length (u8s s.1) ∧ Ml w' g h L s.2.1 s.2.2 ∧ w.grownBy w' (some g)

theorem rint_all {g h : Nat} {L l : List Int} {x : Int} {w : World} (hr : Ml w g h L l x) : Calls Try.prog 14 #[.pointer (some ⟨g, 0, none⟩)] w (RIntAll g h L (V.intS l x) w) := by
  obtain ⟨p, hr, rfl⟩ := hr
  by_cases hx : x = 0
  · subst hx
    refine (rint_any hr).mono ?_
    rintro e w' ⟨he, hm, hg⟩
    exact ⟨he, ⟨_, hm, by show _ = (L.drop p).drop _; rw [List.drop_drop]⟩, hg⟩
  · have e : V.intS (L.drop p) x = (0, L.drop p, x) := by unfold V.intS; rw [if_neg hx]
    rw [e]
    refine (rint_failed hr hx).mono ?_
    rintro e w' ⟨he, rfl⟩
    exact ⟨he, ⟨p, hr, rfl⟩, World.grownBy.refl _ _⟩

theorem rbytes_all {g h : Nat} {L l : List Int} {x n : Int} {w : World} (hr : Ml w g h L l x) : Calls Try.prog 16 #[.pointer (some ⟨g, 0, none⟩), .int .i64 n] w (RBytesAll g h L (V.bytesS l x n) w) := by
  obtain ⟨p, hr, rfl⟩ := hr
  have hp := hr.2.2.2.2.1
  by_cases hx : x = 0
  · subst hx
    have key : Calls Try.prog 16 #[.pointer (some ⟨g, 0, none⟩), .int .i64 n] w (RBytesPost g h L p (V.bytes (L.drop p) n).1 (V.bytes (L.drop p) n).2 w) := by
      unfold V.bytes
      by_cases h1 : n < 0
      · rw [if_pos h1]; exact rbytes_neg hr h1
      · rw [if_neg h1]
        by_cases h2 : ((L.drop p).length : Int) < n
        · rw [if_pos h2]; exact rbytes_short hr (by omega) (by simp at h2; omega)
        · rw [if_neg h2]
          have e : n = ((n.toNat : Nat) : Int) := by omega
          have := rbytes_ok (k := n.toNat) hr (by simp at h2; omega)
          rw [← e] at this
          exact this
    have el : ((L.drop p).take (V.bytes (L.drop p) n).1).length = (V.bytes (L.drop p) n).1 := by have := V.bytes_le (L.drop p) n; simp at this ⊢; omega
    have e : V.bytesS (L.drop p) 0 n = ((L.drop p).take (V.bytes (L.drop p) n).1, (L.drop p).drop (V.bytes (L.drop p) n).1, (V.bytes (L.drop p) n).2) := rfl
    rw [e]
    refine key.mono ?_
    rintro e w' ⟨A, c, rfl, h1, h2, h3⟩
    refine ⟨A, c, ?_, ?_, ⟨_, h2, by simp only [List.drop_drop]⟩, h3⟩
    · simp only; rw [el]
    · simp only; rw [el]; exact h1
  · have e : V.bytesS (L.drop p) x n = ([], L.drop p, x) := by unfold V.bytesS; rw [if_neg hx]
    rw [e]
    refine (rbytes_failed hr hx).mono ?_
    rintro e w' ⟨he, rfl⟩
    exact ⟨none, 0, he, World.ownsRow_nil _ _ _ _, ⟨p, hr, rfl⟩, World.grownBy.refl _ _⟩

end Go.Proofs.Ytgfemdimnkeglaa
