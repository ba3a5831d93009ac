/- Contracts of layer 4: All. -/
import Derived.Test.YtfllebfegngdhaaFrameOwn
import Derived.Test.YtfllebfegngdhaaVint
namespace Go.Proofs.Ytfllebfegngdhaa
open Go.ChangeShapes Go.WideShapes Go.ChangeAt Go.RowKit

theorem Try.rowSl : (Try.prog.info? 32).map (fun i => (i.zero, i.size, i.bytes)) = some (some (.slice none 0 0), 1, 24) := by kernel_rfl
theorem vone_rds (w : World) (v : Value) (t : TypeId) : Rds (w.alloc (.cells #[v] t)) (fun _ => True) (some ⟨w.heap.size, 0, none⟩) [v] := by
  intro j u hu
  match j, hu with
  | 0, hu =>
    simp at hu; subst hu
    exact ⟨_, rfl, trivial, by simp [M.addMk]⟩

/-- Values that each own their bytes. -/
def Rows (w : World) (base : Nat) (vs : List Value) (bs : List (List Int)) : Prop := vs.length = bs.length ∧ ∀ (i : Nat) v b, vs[i]? = some v → bs[i]? = some b → Owns w base v b
theorem Rows.nil {w : World} {base : Nat} : Rows w base [] [] := ⟨rfl, fun i v b h => by simp at h⟩
theorem Rows.keep {w w' : World} {base : Nat} {vs : List Value} {bs : List (List Int)} (h : Rows w base vs bs) (hk : ∀ v b, Owns w base v b → Owns w' base v b) : Rows w' base vs bs :=
  ⟨h.1, fun i v b hv hb => hk v b (h.2 i v b hv hb)⟩
theorem Rows.new {w w' : World} {base : Nat} {vs : List Value} {bs : List (List Int)} (h : Rows w base vs bs) (hb : Below w.heap.size w w') : Rows w' base vs bs := h.keep fun _ _ h => h.new hb
theorem Rows.mono {w : World} {base base' : Nat} {vs : List Value} {bs : List (List Int)} (h : Rows w base vs bs) (hb : base' ≤ base) : Rows w base' vs bs :=
  ⟨h.1, fun i v b hv hbb => (h.2 i v b hv hbb).mono hb⟩
theorem Rows.snoc {w : World} {base : Nat} {vs : List Value} {bs : List (List Int)} {v : Value} {b : List Int} (h : Rows w base vs bs) (hv : Owns w base v b) : Rows w base (vs ++ [v]) (bs ++ [b]) := by
  refine ⟨by simp [h.1], fun i u c hu hc => ?_⟩
  rcases Nat.lt_or_ge i vs.length with hi | hi
  · rw [List.getElem?_append_left hi] at hu
    rw [List.getElem?_append_left (by rw [← h.1]; exact hi)] at hc
    exact h.2 i u c hu hc
  · rw [List.getElem?_append_right hi] at hu
    rw [List.getElem?_append_right (by rw [← h.1]; exact hi), ← h.1] at hc
    cases hj : i - vs.length with
    | zero =>
      rw [hj] at hu hc
      simp at hu hc
      subst hu; subst hc
      exact hv
    | succ j => rw [hj] at hu; simp at hu
/-- A row of slices is written; rows of bytes stay. -/
theorem Owns.grown {w w' : World} {base b2 : Nat} {v : Value} {b : List Int} {u : Value} {n : Nat} {xs : List Value} (h : Owns w base v b) (ho : w.ownsRow b2 32 1 u n xs) (hg : w.grownBy w' u.ownBlock) : Owns w' base v b := by
  obtain ⟨A, c, e, h⟩ := h
  refine ⟨A, c, e, own_keep h fun k hk hlt => hg.block k hlt ?_⟩
  intro e2
  rcases own_apart h ho (by decide) with h1 | h1
  · rw [h1] at hk; cases hk
  · exact h1 (hk.trans e2)

/-- What All answers. -/
def AllP (l : List Int) (w : World) (e : Ending) (w' : World) : Prop :=
  ∃ A c vs, e = .returned (.tuple #[.slice A vs.length c, .int .i64 ((F.all l).2 : Nat)]) ∧ w'.ownsRow w.heap.size 32 1 (.slice A vs.length c) vs.length vs ∧ Rows w' w.heap.size vs (F.all l).1 ∧ Below w.heap.size w w'

/-- How All stands: what it has, and where. -/
structure AllI (l : List Int) (w : World) (bv nv : Value) (wr : World) (n : Nat) (pre : List (List Int)) (vs : List Value) (A : Option Addr) (c : Nat) : Prop where
  bv : bv = .slice A vs.length c
  nv : nv = .int .i64 (n : Int)
  nl : n ≤ l.length
  vn : vs.length ≤ n
  eq : F.all l = (pre ++ (F.all (l.drop n)).1, n + (F.all (l.drop n)).2)
  own : wr.ownsRow w.heap.size 32 1 (.slice A vs.length c) vs.length vs
  rows : Rows wr w.heap.size vs pre
  bel : Below w.heap.size w wr

set_option maxHeartbeats 2000000 in
theorem all_any (S : Nat → Prop) (A : Option Addr) (n c : Nat) (l : List Int) (w : World) (hn : n = l.length) (hr : Rds w S A (u8s l)) (hc : l.length ≤ c) (hl : l.length ≤ 1000000) (hb : Byt l) :
    Calls Try.prog 38 #[.slice A n c] w (AllP l w) := by
  subst hn
  obtain ⟨i0, hi, hz0, hz1, hz2⟩ := info_parts Try.rowSl
  go_enter Try.func38, Try.ntmps38
  go_wp2_with fail
  go_loopw [2, 3] (fun bv nv wr => ∃ n pre vs A c, AllI l w bv nv wr n pre vs A c) (fun _ nv _ => l.length - (intOf nv).toNat)
  case atStart => exact ⟨0, [], [], none, 0, rfl, rfl, by omega, by simp, by simp, World.ownsRow_nil _ _ _ _, Rows.nil, Below.refl _ _⟩
  case round =>
    obtain ⟨n, pre, vs, A1, c1, rfl, rfl, hnl, hvn, heq, hown, hrows, hbel⟩ := hrel
    have HEQ := Lib.hid heq
    clear heq
    have hr1 := hr.new hbel
    obtain ⟨An, hAn⟩ : ∃ An, An = cutAt A c n := ⟨_, rfl⟩
    have hsl : ∀ W : World, (Instr.slice 32 (.slice A l.length c) (some (.int .i64 (n : Int))) none none).run Try.prog W = .ok (.slice An (l.length - n) (c - n)) W := fun W => by
      rw [hAn]; exact slice_from A l.length c n hnl W
    have hrn : Rds wr S An (u8s (l.drop n)) := by rw [hAn]; exact hr1.cutAt hc n
    have HO := open_any S An (l.length - n) (c - n) (l.drop n) wr (by simp) hrn (by simp; omega) (by simp; omega) (hb.drop n)
    clear hAn
    go_wp2_with fail
    refine HO.mono ?_
    clear HO
    rintro e w1 ⟨⟨h0, rfl⟩ | ⟨h0, rfl⟩, hB1⟩
    · obtain ⟨hg, g0, g1, _, _, _⟩ := F.get_good h0
      have hbd : F.body (l.drop n) = ((l.drop n).drop (F.start (l.drop n))).take (F.stop (l.drop n) - F.start (l.drop n)) := by unfold F.body; rw [hg]
      have hbl := F.body_len h0
      have hM := F.all_more HEQ.out h0
      have hrb : Rds w1 S (cutAt An (c - n) (F.start (l.drop n))) (u8s (F.body (l.drop n))) := by rw [hbd]; exact ((hrn.new hB1).cutAt (by simp; omega) _).takeI _
      rw [hg] at hM
      simp only at hM
      obtain ⟨en, hen⟩ : ∃ en, en = F.stop (l.drop n) := ⟨_, rfl⟩
      obtain ⟨st, hst⟩ : ∃ st, st = F.start (l.drop n) := ⟨_, rfl⟩
      obtain ⟨bd, hbd'⟩ : ∃ bd, bd = F.body (l.drop n) := ⟨_, rfl⟩
      rw [← hen, ← hst]
      rw [← hbd', ← hst] at hrb
      rw [← hen, ← hbd'] at hM
      rw [← hen, ← hst, ← hbd'] at hbl
      rw [← hen, List.length_drop] at g1
      obtain ⟨Ap, hAp⟩ : ∃ Ap, Ap = cutAt An (c - n) st := ⟨_, rfl⟩
      rw [← hAp] at hrb ⊢
      have hF := ffresh_any S Ap (en - st) (c - n - st) bd w1 hbl.symm hrb (by omega)
      have HM := Lib.hid hM
      have ho1 := own_keep hown fun k _ hk => hB1.block k hk
      have hrows1 := hrows.new hB1
      have hb1 := below_new hbel hB1
      have hen4 : n + (en + 4) ≤ l.length := by omega
      have hbs : bd.length ≤ 1000000 := by omega
      clear hAp hM hbd hbd' hen hst hg g0 h0 hown hrows hbel hB1 hrn hr1 hrb hbl
      go_wp2_with fail
      refine hF.mono ?_
      rintro e w2 ⟨A2, c2, rfl, ho2, hB2⟩
      have ho12 := own_keep ho1 fun k _ hk => hB2.block k hk
      have hrows2 := hrows1.new hB2
      have hb2 := below_new hb1 hB2
      have hO2 : Owns w2 w.heap.size (.slice A2 bd.length c2) bd := ⟨A2, c2, rfl, own_mono ho2 hb1.size⟩
      have ho3 := ho12.alloc (.cells #[.slice A2 bd.length c2] 32)
      have hrows3 := (hrows2.snoc hO2).new ((Below.refl _ _).alloc (Nat.le_refl _) (.cells #[.slice A2 bd.length c2] 32))
      have hb3 := hb2.alloc hb2.size (.cells #[.slice A2 bd.length c2] 32)
      have hs3 := hb3.size
      clear hF ho1 hrows1 hb1 hB2 ho2 ho12 hrows2 hb2 hO2
      go_wp2_with (at_builtin; refine wpList_app _ rfl _ _ 33 rfl w.heap.size 32 i0 (.slice none 0 0) 24 Try.underlying33 hi hz0 hz1 hz2 rfl _ _ _ rfl ho3 (fun _ => True) _ 1 1 [.slice A2 bd.length c2] rfl rfl (vone_rds w2 _ 32) (by simp [Value.oneCell']) (by unfold maxLen; omega) (by omega) hs3 ?_)
      intro v4 w4 hown4 hg4 _
      have hb4 := hb3.grown hg4 hs3 fun k hk => (ho3.lt k hk).1
      have hrows4 := hrows3.keep fun v b h => h.grown ho3 hg4
      obtain ⟨A4, c4, rfl, _, _⟩ := own_form hown4
      clear ho3 hrows3 hb3 hs3 hg4
      go_wp2
      go_roundw
      case rel => exact ⟨n + (en + 4), pre ++ [bd], vs ++ [.slice A2 bd.length c2], A4, c4, by simp, by go_num, hen4, by simp; omega, HM.out, by simpa using hown4, hrows4, hb4⟩
      case measure => simp [intOf]; omega
    · have h0' : ((F.get (l.drop n)).1 != 0) = true := by simpa using h0
      have HE := Lib.hid (F.all_end HEQ.out h0)
      have ho1 := own_keep hown fun k _ hk => hB1.block k hk
      have hrows1 := hrows.new hB1
      have hb1 := below_new hbel hB1
      clear h0 hown hrows hbel hB1 hrn hr1
      go_wp2
      go_ret2
      refine ⟨A1, c1, vs, ?_, ho1, ?_, hb1⟩
      · rw [HE.out]; rfl
      · rw [HE.out]; exact hrows1
end Go.Proofs.Ytfllebfegngdhaa
