/- Contracts of layer 4: Get. -/
import Derived.Test.YtombbepgeimfmaaFrameOpen
import Derived.Deep.RegionWith
namespace Go.Proofs.Ytombbepgeimfmaa
open Go.ChangeShapes Go.WideShapes Go.ChangeAt Go.RowKit

/-- What stands behind the frame. -/
def F.rest (l : List Int) : List Int := l.drop ((F.get l).2.2 + 4)
/-- A slice value that owns these cells, in memory from base on. -/
def Owns (w : World) (base : Nat) (v : Value) (l : List Int) : Prop := ∃ A c, v = .slice A l.length c ∧ w.ownsRow base 5 1 (.slice A l.length c) l.length (u8s l)
theorem Owns.mono {w : World} {base base' : Nat} {v : Value} {l : List Int} (h : Owns w base v l) (hb : base' ≤ base) : Owns w base' v l := by
  obtain ⟨A, c, e, h⟩ := h; exact ⟨A, c, e, own_mono h hb⟩
theorem Owns.new {w w' : World} {base : Nat} {v : Value} {l : List Int} (h : Owns w base v l) (hb : Below w.heap.size w w') : Owns w' base v l := by
  obtain ⟨A, c, e, h⟩ := h; exact ⟨A, c, e, own_keep h fun k _ hk => hb.block k hk⟩
/-- What Get answers. -/
def GetP (l : List Int) (w : World) (e : Ending) (w' : World) : Prop :=
  (((F.get l).1 = 0 ∧ ∃ v1 v2, e = .returned (.tuple #[v1, v2, .int .i64 0]) ∧ Owns w' w.heap.size v1 (F.body l) ∧ Owns w' w.heap.size v2 (F.rest l)) ∨
    ((F.get l).1 ≠ 0 ∧ e = .returned (.tuple #[.slice none 0 0, .slice none 0 0, .int .i64 (F.get l).1]))) ∧ Below w.heap.size w w'

set_option maxHeartbeats 1000000 in
theorem get_any (S : Nat → Prop) (A : Option Addr) (n c : Nat) (l : List Int) (w : World) (hn : n = l.length) (hr : Rds w S A (u8s l)) (hc : l.length ≤ c) (hl : l.length ≤ 1000000) (hb : Byt l) :
    Calls Try.prog 13 #[.slice A n c] w (GetP l w) := by
  subst hn
  have HO := open_any S A l.length c l w rfl hr hc hl hb
  by_cases h0 : (F.get l).1 = 0
  · obtain ⟨hg, g0, g1, _, _, _⟩ := F.get_good h0
    have hbd : F.body l = (l.drop (F.start l)).take (F.stop l - F.start l) := by unfold F.body; rw [hg]
    have hre : F.rest l = l.drop (F.stop l + 4) := by unfold F.rest; rw [hg]
    have hbl := F.body_len h0
    have hrb : Rds w S (cutAt A c (F.start l)) (u8s (F.body l)) := by rw [hbd]; exact (hr.cutAt hc _).takeI _
    have hrr : Rds w S (cutAt A c (F.stop l + 4)) (u8s (F.rest l)) := by rw [hre]; exact hr.cutAt hc _
    have hrl : (F.rest l).length = l.length - (F.stop l + 4) := by rw [hre]; simp
    have hsl : ∀ W : World, (Instr.slice 22 (.slice A l.length c) (some (.int .i64 ((F.stop l : Int) + 4))) none none).run Try.prog W = .ok (.slice (cutAt A c (F.stop l + 4)) (F.rest l).length (c - (F.stop l + 4))) W := fun W => by
      rw [hrl]; exact slice_from A l.length c (F.stop l + 4) (by omega) W
    have hbs : (F.body l).length ≤ 1000000 := by rw [hbl]; omega
    have hrs : (F.rest l).length ≤ 1000000 := by omega
    have H0 := Lib.hid h0
    unfold OpenP at HO
    rw [← hbl] at HO
    obtain ⟨A3, hA3⟩ : ∃ A3, A3 = cutAt A c (F.start l) := ⟨_, rfl⟩
    obtain ⟨A4, hA4⟩ : ∃ A4, A4 = cutAt A c (F.stop l + 4) := ⟨_, rfl⟩
    obtain ⟨c3, hc3⟩ : ∃ c3, c3 = c - F.start l := ⟨_, rfl⟩
    obtain ⟨c4, hc4⟩ : ∃ c4, c4 = c - (F.stop l + 4) := ⟨_, rfl⟩
    obtain ⟨z, hz⟩ : ∃ z : Nat, (F.stop l : Int) + 4 = (z : Int) := ⟨F.stop l + 4, by omega⟩
    rw [← hA3] at HO hrb
    rw [← hA4] at hrr hsl
    rw [← hc3] at HO
    rw [← hc4] at hsl
    rw [hz] at HO hsl
    clear hA3 hA4 hc3 hc4 hz hg hbd hre hbl hrl h0 g0 g1 hr hc
    unfold GetP
    obtain ⟨bd, hbd⟩ : ∃ bd, bd = F.body l := ⟨_, rfl⟩
    obtain ⟨rs, hrs'⟩ : ∃ rs, rs = F.rest l := ⟨_, rfl⟩
    rw [← hbd] at HO hrb hbs ⊢
    rw [← hrs'] at hrr hsl hrs ⊢
    clear hbd hrs'
    go_enter Try.func13, Try.ntmps13
    go_wp2_with fail
    refine HO.mono ?_
    rintro e w1 ⟨⟨_, rfl⟩ | ⟨h, _⟩, hB⟩
    rotate_left
    · exact absurd H0.out h
    have hrb1 := hrb.new hB
    have hrr1 := hrr.new hB
    have FR : ∀ (X : Option Addr) (k : Nat) (m : List Int), Rds w1 S X (u8s m) → m.length ≤ 1000000 → ∀ W : World, Below w1.heap.size w1 W → Calls Try.prog 23 #[.slice X m.length k] W fun e w' =>
        ∃ A c, e = .returned (.slice A m.length c) ∧ w'.ownsRow W.heap.size 5 1 (.slice A m.length c) m.length (u8s m) ∧ Below W.heap.size W w' ∧ Below w1.heap.size w1 w' := fun X k m hX hm W hW =>
      (ffresh_any S X m.length k m W rfl (hX.new hW) hm).mono fun e w' ⟨A, c, h1, h2, h3⟩ => ⟨A, c, h1, h2, h3, below_new hW h3⟩
    have F3 := FR A3 c3 bd hrb1 hbs
    have F4 := FR A4 c4 rs hrr1 hrs
    have hd1 : Below w1.heap.size w1 w1.drew := below_drewN (Below.refl _ _) 1
    clear FR HO hrb hrr hrb1 hrr1
    go_wp2_with fail
    go_region_with (first
      | (go_at_call_of 23 A3; refine (F3 _ ?_).mono ?_; assumption; rintro e w' ⟨A1, c1, rfl, ho1, hb1, hB1⟩)
      | (go_at_call_of 23 A4; refine (F4 _ ?_).mono ?_; assumption; rintro e w' ⟨A2, c2, rfl, ho2, hb2, hB2⟩))
    all_goals go_wp2
    all_goals go_ret3
    all_goals
      refine ⟨.inl ⟨H0.out, _, _, rfl, ?_, ?_⟩, ?_⟩
      · refine ⟨A1, c1, rfl, ?_⟩
        first
          | exact own_mono (own_keep ho1 fun k _ hk => hb2.block k hk) (hB.size)
          | exact own_mono ho1 (Nat.le_trans hB.size hB2.size)
      · refine ⟨A2, c2, rfl, ?_⟩
        first
          | exact own_mono (own_keep ho2 fun k _ hk => hb1.block k hk) (hB.size)
          | exact own_mono ho2 (Nat.le_trans hB.size hB1.size)
      · first
          | exact below_new hB hB2
          | exact below_new hB hB1
  · have H0 := Lib.hid h0
    clear h0
    go_enter Try.func13, Try.ntmps13
    go_wp2_with fail
    refine HO.mono ?_
    rintro e w1 ⟨⟨h, _⟩ | ⟨h, rfl⟩, hB⟩
    · exact absurd h H0.out
    · have h' : ((F.get l).1 != 0) = true := by simpa using h
      have H := Lib.hid h
      clear h
      go_wp2
      go_ret3
      exact ⟨.inr ⟨H.out, rfl⟩, hB⟩
end Go.Proofs.Ytombbepgeimfmaa
