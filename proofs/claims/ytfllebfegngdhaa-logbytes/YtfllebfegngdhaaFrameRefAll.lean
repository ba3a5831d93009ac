/- The document's own All, and its Same of lists. -/
import Derived.Test.YtfllebfegngdhaaFrameRef
import Derived.Test.YtfllebfegngdhaaFrameAll
import Derived.Test.YtfllebfegngdhaaSameY
namespace Go.Proofs.Ytfllebfegngdhaa
open Go.ChangeShapes Go.WideShapes Go.ChangeAt Go.RowKit

/-- Values that each read as their bytes. -/
def RRows (w : World) (vs : List Value) (bs : List (List Int)) : Prop := vs.length = bs.length ∧ ∀ (i : Nat) v b, vs[i]? = some v → bs[i]? = some b → ROwns w v b
theorem RRows.nil {w : World} : RRows w [] [] := ⟨rfl, fun i v b h => by simp at h⟩
theorem RRows.keep {w w' : World} {vs : List Value} {bs : List (List Int)} (h : RRows w vs bs) (hk : ∀ v b, ROwns w v b → ROwns w' v b) : RRows w' vs bs :=
  ⟨h.1, fun i v b hv hb => hk v b (h.2 i v b hv hb)⟩
theorem RRows.new {w w' : World} {vs : List Value} {bs : List (List Int)} (h : RRows w vs bs) (hb : Below w.heap.size w w') : RRows w' vs bs := h.keep fun _ _ h => h.new hb
theorem RRows.snoc {w : World} {vs : List Value} {bs : List (List Int)} {v : Value} {b : List Int} (h : RRows w vs bs) (hv : ROwns w v b) : RRows w (vs ++ [v]) (bs ++ [b]) := by
  refine ⟨by simp [h.1], fun i u c hu hc => ?_⟩
  rcases Nat.lt_or_ge i vs.length with hi | hi
  · rw [List.getElem?_append_left hi] at hu
    rw [List.getElem?_append_left (by rw [← h.1]; exact hi)] at hc
    exact h.2 i u c hu hc
  · rw [List.getElem?_append_right hi] at hu
    rw [List.getElem?_append_right (by rw [← h.1]; exact hi), ← h.1] at hc
    cases hj : i - vs.length with
    | zero =>
      rw [hj] at hu hc
      simp at hu hc
      subst hu; subst hc
      exact hv
    | succ j => rw [hj] at hu; simp at hu

/-- What the document's All answers. -/
def RAllP (l : List Int) (w : World) (e : Ending) (w' : World) : Prop :=
  ∃ A c vs, e = .returned (.tuple #[.slice A vs.length c, .int .i64 ((F.all l).2 : Nat)]) ∧ w'.ownsRow w.heap.size 32 1 (.slice A vs.length c) vs.length vs ∧ RRows w' vs (F.all l).1 ∧ Below w.heap.size w w'

structure RAllI (l : List Int) (w : World) (bv rv : Value) (wr : World) (n : Nat) (pre : List (List Int)) (vs : List Value) (A : Option Addr) (c : Nat) (Ar : Option Addr) (cr : Nat) : Prop where
  bv : bv = .slice A vs.length c
  rv : rv = .slice Ar (l.drop n).length cr
  nl : n ≤ l.length
  vn : vs.length ≤ n
  rc : (l.drop n).length ≤ cr
  rr : Rds wr (fun _ => True) Ar (u8s (l.drop n))
  eq : F.all l = (pre ++ (F.all (l.drop n)).1, n + (F.all (l.drop n)).2)
  own : wr.ownsRow w.heap.size 32 1 (.slice A vs.length c) vs.length vs
  rows : RRows wr vs pre
  bel : Below w.heap.size w wr

set_option maxHeartbeats 2000000 in
theorem rall_any (S : Nat → Prop) (A : Option Addr) (n c : Nat) (l : List Int) (w : World) (hn : n = l.length) (hr : Rds w S A (u8s l)) (hc : l.length ≤ c) (hl : l.length ≤ 1000000) (hb : Byt l) :
    Calls Try.prog 40 #[.slice A n c] w (RAllP l w) := by
  subst hn
  obtain ⟨i0, hi, hz0, hz1, hz2⟩ := info_parts Try.rowSl
  go_enter Try.func40, Try.ntmps40
  go_wp2_with fail
  go_loopw [4, 5] (fun bv rv wr => ∃ n pre vs A c Ar cr, RAllI l w bv rv wr n pre vs A c Ar cr) (fun _ rv _ => lenOf rv)
  case atStart => exact ⟨0, [], [], none, 0, A, c, rfl, rfl, by omega, by simp, by simpa using hc, by simpa using hr.mono fun _ _ => trivial, by simp, World.ownsRow_nil _ _ _ _, RRows.nil, Below.refl _ _⟩
  case round =>
    obtain ⟨n, pre, vs, A1, c1, Ar, cr, rfl, rfl, hnl, hvn, hrc, hrr, heq, hown, hrows, hbel⟩ := hrel
    have HEQ := Lib.hid heq
    clear heq
    obtain ⟨D, hD⟩ : ∃ D, D = l.drop n := ⟨_, rfl⟩
    have hDl : D.length = l.length - n := by rw [hD]; simp
    rw [← hD] at hrr hrc ⊢
    have HO := rget_any (fun _ => True) Ar D.length cr D wr rfl hrr hrc (by omega) (by rw [hD]; exact hb.drop n)
    have HD := Lib.hid hD
    have HDL := Lib.hid hDl
    have hDle : D.length ≤ l.length := by omega
    clear hD hDl
    go_wp2_with fail
    refine HO.mono ?_
    clear HO
    rintro e w1 ⟨⟨h0, v1, v2, rfl, ho1, ho2⟩ | ⟨h0, rfl⟩, hB1⟩
    · have ho1' := ho1
      obtain ⟨Av, cv, hv1, _, _⟩ := ho1'
      subst hv1
      obtain ⟨hg, g0, g1, _, _, _⟩ := F.get_good h0
      obtain ⟨bd, hbd⟩ : ∃ bd, bd = F.body D := ⟨_, rfl⟩
      rw [← hbd] at ho1 ⊢
      have HBD := Lib.hid hbd
      have hM := F.all_more HEQ.out (by rw [← HD.out]; exact h0)
      rw [← HD.out] at hM
      have hre : F.rest D = l.drop (n + ((F.get D).2.2 + 4)) := by unfold F.rest; rw [HD.out, List.drop_drop]
      have hre2 : (F.rest D).length = D.length - (F.stop D + 4) := by unfold F.rest; rw [hg]; simp
      obtain ⟨m, hm⟩ : ∃ m, m = n + ((F.get D).2.2 + 4) := ⟨_, rfl⟩
      have hmn : n < m := by omega
      have hml : m ≤ l.length := by rw [hm, hg]; have := HDL.out; simp only; omega
      rw [← hm] at hM hre
      rw [← hbd] at hM
      have HM := Lib.hid hM
      have HRE := Lib.hid hre
      have hlt : (F.rest D).length < D.length := by omega
      have hown1 := own_keep hown fun k _ hk => hB1.block k hk
      have hrows1 := hrows.new hB1
      have hb1 := below_new hbel hB1
      have ho3 := hown1.alloc (.cells #[.slice Av bd.length cv] 32)
      have hrows3 := (hrows1.snoc ho1).new ((Below.refl _ _).alloc (Nat.le_refl _) (.cells #[.slice Av bd.length cv] 32))
      have ho23 := ho2.new ((Below.refl _ _).alloc (Nat.le_refl _) (.cells #[.slice Av bd.length cv] 32))
      have hb3 := hb1.alloc hb1.size (.cells #[.slice Av bd.length cv] 32)
      have hs3 := hb3.size
      clear hbd hM hre hre2 hm hg g0 g1 h0 hown hrows hbel hB1 hrr hown1 hrows1 hb1 ho1 ho2
      go_wp2_with (at_builtin; refine wpList_app _ rfl _ _ 33 rfl w.heap.size 32 i0 (.slice none 0 0) 24 Try.underlying33 hi hz0 hz1 hz2 rfl _ _ _ rfl ho3 (fun _ => True) _ 1 1 [.slice Av bd.length cv] rfl rfl (vone_rds w1 _ 32) (by simp [Value.oneCell']) (by unfold maxLen; omega) (by omega) hs3 ?_)
      intro v4 w4 hown4 hg4 _
      have hb4 := hb3.grown hg4 hs3 fun k hk => (ho3.lt k hk).1
      have hrows4 := hrows3.keep fun v b h => h.grown ho3 hg4
      have ho24 := ho23.grown ho3 hg4
      obtain ⟨A4, c4, rfl, _, _⟩ := own_form hown4
      obtain ⟨A5, c5, rfl, hc5, hrd5⟩ := ho24.rds
      clear ho3 hrows3 hb3 hs3 hg4 ho23 ho24
      go_wp2
      go_roundw
      case rel => exact ⟨m, pre ++ [bd], vs ++ [.slice Av bd.length cv], A4, c4, A5, c5, by simp, by rw [HRE.out], hml, by simp; omega, by rw [← HRE.out]; exact hc5, by rw [← HRE.out]; exact hrd5, HM.out, by simpa using hown4, hrows4, hb4⟩
      case measure => exact hlt
    · have h0' : ((F.get D).1 != 0) = true := by simpa using h0
      have HE := Lib.hid (F.all_end HEQ.out (by rw [← HD.out]; exact h0))
      have ho1 := own_keep hown fun k _ hk => hB1.block k hk
      have hrows1 := hrows.new hB1
      have hb1 := below_new hbel hB1
      clear h0 hown hrows hbel hB1 hrr
      go_wp2
      go_ret2
      refine ⟨A1, c1, vs, ?_, ho1, ?_, hb1⟩
      · rw [HE.out]
        have e : (l.length : Int) - (D.length : Int) = (n : Int) := by have := HDL.out; omega
        simp only
        rw [← e]; rfl
      · rw [HE.out]; exact hrows1

end Go.Proofs.Ytfllebfegngdhaa
