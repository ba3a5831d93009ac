/- The walk of VintReads. -/
import Derived.Test.YtgfemdimnkeglaaVintAlive
import Derived.Test.YtgfemdimnkeglaaVintRefBy
import Derived.Test.YtgfemdimnkeglaaArgs
namespace Go.Proofs.Ytgfemdimnkeglaa
open Go.ChangeShapes Go.WideShapes Go.ChangeAt Go.RowKit

set_option maxHeartbeats 1000000 in
theorem vintReads_big (a0 a1 : Option Addr) (len0 cap0 len1 cap1 : Nat) (w : World) (hl : 1000 < len0 ∨ 200 < len1) (h0 : len0 ≤ maxLen) (h1 : len1 ≤ maxLen) :
    Calls Try.prog 4 #[.slice a0 len0 cap0, .slice a1 len1 cap1] w fun e w' => e = .returned (.bool true) ∧ Below w.heap.size w w' := by
  unfold maxLen at h0 h1
  by_cases h2 : 1000 < len0
  all_goals
    have h3 : 1000 < len0 ∨ 200 < len1 := hl
    clear hl
    go_enter Try.func4, Try.ntmps4
    go_wp2_with fail
    refine (alive_yes w).mono ?_
    rintro e w1 ⟨rfl, hb⟩
    first
      | have h4 : 200 < len1 := by omega
      | skip
    clear h3
    go_wp2
    go_ret
    exact ⟨rfl, hb⟩

theorem mr_made {w w1 : World} {A : Option Addr} {c : Nat} {L : List Int} (hB : Byt L) (hl : L.length ≤ 1000000) (hown : w1.ownsRow w.heap.size 5 1 (.slice A L.length c) L.length (u8s L)) (hs : w.heap.size ≤ w1.heap.size) :
    ∃ h, Ml (w1.alloc (.cells #[.slice A L.length c, .int .i64 0, .int .i64 0] 37)) w1.heap.size h L L 0 ∧ w.heap.size ≤ h := by
  have hr := own_rds hown
  obtain ⟨A', c', e, hc, hnil⟩ := own_form hown
  injection e with e1 _ e3
  subst e1; subst e3
  rcases A with _ | ad
  · obtain ⟨h0, h1⟩ := hnil rfl
    have : L = [] := List.eq_nil_of_length_eq_zero h0
    subst this
    exact ⟨w1.heap.size, ⟨0, ⟨fun h => absurd rfl h, by simp, hB, hl, by simp, none, _, Blo.made _ _ _, by omega, Rds.nil⟩, rfl⟩, by omega⟩
  · have hlt := hown.lt ad.block rfl
    refine ⟨ad.block, ⟨0, ⟨fun _ => by omega, by simp; omega, hB, hl, by omega, _, _, Blo.made _ _ _, hc, ?_⟩, rfl⟩, by omega⟩
    exact (hr.alloc _).mono fun b hb => by have := hb.2; simp [Value.ownBlock] at this; exact this.symm

/-- How the two readers stand. -/
structure Both (w wr : World) (g h g2 h2 : Nat) (L l : List Int) (x : Int) : Prop where
  r : Rdr wr g h l x
  m : Ml wr g2 h2 L l x
  bel : Below w.heap.size w wr
  gw : w.heap.size ≤ g
  hw : w.heap.size ≤ h
  gg : g < g2
  gh : g < h2
  hg : h < g2
  hh : h < h2

theorem Both.new {w wr w1 : World} {g h g2 h2 : Nat} {L l : List Int} {x : Int} (b : Both w wr g h g2 h2 L l x) (hb : Below wr.heap.size wr w1) : Both w w1 g h g2 h2 L l x :=
  ⟨b.r.new hb, b.m.new hb, b.bel.trans (hb.mono b.bel.size), b.gw, b.hw, b.gg, b.gh, b.hg, b.hh⟩
theorem Both.step {w wr w1 w2 : World} {g h g2 h2 : Nat} {L l l' : List Int} {x x' : Int} (b : Both w wr g h g2 h2 L l x) (h1 : Rdr w1 g h l' x') (k1 : wr.grownBy w1 (some g)) (h2' : Ml w2 g2 h2 L l' x') (k2 : w1.grownBy w2 (some g2)) : Both w w2 g h g2 h2 L l' x' := by
  obtain ⟨b1, b2, b3, b4, b5, b6, b7, b8, b9⟩ := b
  refine ⟨h1.grown k2 (by simp; omega) (by simp; omega), h2', ?_, b4, b5, b6, b7, b8, b9⟩
  have s1 := b3.size
  have s2 := k1.size
  exact (b3.grown k1 s1 (fun k hk => by injection hk with hk; omega)).grown k2 (by omega) (fun k hk => by injection hk with hk; omega)
/-- A write to a row that is newer than both. -/
theorem Both.soft {w wr w1 : World} {g h g2 h2 : Nat} {L l : List Int} {x : Int} {row : Option Nat} (b : Both w wr g h g2 h2 L l x) (hg : wr.grownBy w1 row) (hr : ∀ k, row = some k → g ≠ k ∧ h ≠ k ∧ g2 ≠ k ∧ h2 ≠ k ∧ w.heap.size ≤ k) : Both w w1 g h g2 h2 L l x := by
  obtain ⟨b1, b2, b3, b4, b5, b6, b7, b8, b9⟩ := b
  refine ⟨b1.grown hg ?_ ?_, b2.grown hg ?_ ?_, b3.grown hg b3.size ?_, b4, b5, b6, b7, b8, b9⟩
  · intro e; have := hr g e.symm; omega
  · intro e; have := hr h e.symm; omega
  · intro e; have := hr g2 e.symm; omega
  · intro e; have := hr h2 e.symm; omega
  · intro k hk; have := hr k hk; omega

theorem Both.alloc {w wr : World} {g h g2 h2 : Nat} {L l : List Int} {x : Int} (b : Both w wr g h g2 h2 L l x) (o : Obj) : Both w (wr.alloc o) g h g2 h2 L l x := b.new ((Below.refl _ _).alloc (Nat.le_refl _) o)
theorem quiet_same {P : Program} {f : FuncId} {args : Array Value} {w : World} {n : Nat} {v : Value}
    (h : Calls P f args (w.drewN n) fun e w' => e = .returned v ∧ w.drewN n = w') : Calls P f args (w.drewN n) fun e w'' => e = .returned v ∧ ∃ m, w'' = w.drewN m :=
  h.mono fun _ _ ⟨he, hm⟩ => ⟨he, n, hm.symm⟩
theorem Ml.cells {w : World} {g h : Nat} {L l : List Int} {x : Int} (hr : Ml w g h L l x) : ∃ A c, ∃ p : Nat, w.cell? ⟨g, 0, none⟩ = some (.slice A L.length c) ∧ w.cell? ⟨g, 1, none⟩ = some (.int .i64 p) ∧ w.cell? ⟨g, 2, none⟩ = some (.int .i64 x) ∧ l.length + p = L.length := by
  obtain ⟨p, hr, rfl⟩ := hr
  have hp := hr.2.2.2.2.1
  obtain ⟨A, c, z0, z1, z2, _⟩ := hr.cells
  exact ⟨A, c, p, z0, z1, z2, by simp; omega⟩
theorem rfail_all {g h : Nat} {L l : List Int} {x n : Int} {w : World} (hr : Ml w g h L l x) :
    Calls Try.prog 18 #[.pointer (some ⟨g, 0, none⟩), .int .i64 n] w fun e w' => e = .returned (.tuple #[]) ∧ Ml w' g h L l (if x = 0 then n else x) ∧ w.grownBy w' (some g) := by
  obtain ⟨p, hr, e⟩ := hr
  exact (rfail_any hr).mono fun _ _ ⟨h1, h2, h3⟩ => ⟨h1, ⟨p, h2, e⟩, h3⟩

theorem V.bytesS_len (l : List Int) (x n : Int) : (V.bytesS l x n).1.length ≤ l.length := by
  unfold V.bytesS
  split
  · simp; omega
  · simp

set_option maxRecDepth 100000 in
set_option maxHeartbeats 8000000 in
theorem vintReads_main (a0 a1 : Option Addr) (cap0 cap1 : Nat) (L : List Int) (os : List (Int × Int)) (w : World) (hr0 : Rds w (· < w.heap.size) a0 (u8s L)) (hB : Byt L) (hr1 : Recs w (· < w.heap.size) a1 2 (os.map rec2)) (hl0 : L.length ≤ 1000) (hl1 : os.length ≤ 200) :
    Calls Try.prog 4 #[.slice a0 L.length cap0, .slice a1 os.length cap1] w fun e w' => e = .returned (.bool true) ∧ Below w.heap.size w w' := by
  obtain ⟨i0, hi, hz0, hz1, hz2⟩ := info_parts Try.rowU8
  go_enter Try.func4, Try.ntmps4
  go_wp2_with fail
  refine (alive_yes w).mono ?_
  rintro e w1 ⟨rfl, hb1⟩
  have hs1 := hb1.size
  have hown0 : (w1.alloc (.cells #[] 5)).ownsRow w1.heap.size 5 1 (.slice (some ⟨w1.heap.size, 0, none⟩) 0 0) 0 [] := World.ownsRow_lit w1 #[] 0 (Nat.le_refl _) (by unfold maxLen; omega) rfl
  go_wp2_with (at_builtin; refine wpList_app _ rfl (.tmp 24) (.tmp 25) 22 rfl w1.heap.size 5 i0 (.int .u8 0) 1 Try.underlying22 hi hz0 hz1 hz2 rfl _ _ _ rfl hown0 _ a0 L.length cap0 (u8s L) rfl (by simp) ((hr0.new hb1).alloc _) (one_ints _ _) (by unfold maxLen; omega) (by omega) (by simp) ?_)
  intro v2 w2 hown2 hg2 _
  have hb2 : Below w1.heap.size w1 w2 := ((Below.refl _ _).alloc (Nat.le_refl _) _).grown hg2 (by simp) (fun k hk => by simp [Value.ownBlock] at hk; omega)
  obtain ⟨A2, c2, rfl, _, _⟩ := own_form hown2
  have hown2' : w2.ownsRow w1.heap.size 5 1 (.slice A2 L.length c2) L.length (u8s L) := hown2
  have hB2 : Below w.heap.size w w2 := below_new hb1 hb2
  have hs2 := hb2.size
  clear hown2 hg2 hown0
  go_wp2_with fail
  refine (new_any _ A2 c2 L w2 (own_rds hown2') (by omega) hB).mono ?_
  rintro e w3 ⟨g, h, rfl, hr3, hg3, hh3, hb3⟩
  have hs3 := hb3.size
  have hB3 : Below w.heap.size w w3 := hB2.trans (hb3.mono (by omega))
  have hown3 := own_keep hown2' fun k _ hk => hb3.block k hk
  have hin : ∀ k, (Value.slice A2 L.length c2).ownBlock = some k → k < w2.heap.size ∧ w.heap.size ≤ k := fun k hk => by have := hown2'.lt k hk; omega
  have HIN := Lib.hid hin
  have hown0 : (w3.alloc (.cells #[] 5)).ownsRow w3.heap.size 5 1 (.slice (some ⟨w3.heap.size, 0, none⟩) 0 0) 0 [] := World.ownsRow_lit w3 #[] 0 (Nat.le_refl _) (by unfold maxLen; omega) rfl
  clear hin hb2 hown2' hB2
  go_wp2_with (at_builtin; refine wpList_app _ rfl (.tmp 29) (.tmp 30) 22 rfl w3.heap.size 5 i0 (.int .u8 0) 1 Try.underlying22 hi hz0 hz1 hz2 rfl _ _ _ rfl hown0 _ a0 L.length cap0 (u8s L) rfl (by simp) ((hr0.below hB3 (fun _ h _ => h)).alloc _) (one_ints _ _) (by unfold maxLen; omega) (by omega) (by simp) ?_)
  intro v4 w4 hown4 hg4 _
  have hb4 : Below w3.heap.size w3 w4 := ((Below.refl _ _).alloc (Nat.le_refl _) _).grown hg4 (by simp) (fun k hk => by simp [Value.ownBlock] at hk; omega)
  obtain ⟨A4, c4, rfl, _, _⟩ := own_form hown4
  have hown4' : w4.ownsRow w3.heap.size 5 1 (.slice A4 L.length c4) L.length (u8s L) := hown4
  have hs4 := hb4.size
  obtain ⟨h2, hm, hh2⟩ := mr_made hB (by omega) hown4' hs4
  have hb5 : Below w3.heap.size w3 (w4.alloc (.cells #[.slice A4 L.length c4, .int .i64 0, .int .i64 0] 37)) := hb4.alloc hs4 _
  have l3 := hr3.lt
  have l3' := hr3.lth
  have b0 : Both w (w4.alloc (.cells #[.slice A4 L.length c4, .int .i64 0, .int .i64 0] 37)) g h w4.heap.size h2 L L 0 := ⟨hr3.new hb5, hm, hB3.trans (hb5.mono (by omega)), by omega, by omega, by omega, by omega, by omega, by omega⟩
  have hS0 := Soft.start (own_keep hown3 fun k _ hk => hb5.block k hk)
  clear hown4 hown4' hg4 hown0 hb4 hb5 hm hr3 hb3 hB3 hown3
  obtain ⟨g2, hg2⟩ : ∃ g2, g2 = w4.heap.size := ⟨_, rfl⟩
  have hg2' : w3.heap.size ≤ g2 := by omega
  go_wp2_with fail
  obtain ⟨W5, hW5⟩ : ∃ W5, W5 = w4.alloc (.cells #[.slice A4 L.length c4, .int .i64 0, .int .i64 0] 37) := ⟨_, rfl⟩
  rw [← hW5, ← hg2]
  rw [← hW5, ← hg2] at b0
  rw [← hW5] at hS0
  have hsoft : ∀ k, (Value.slice A2 L.length 0).ownBlock = some k → g ≠ k ∧ h ≠ k ∧ g2 ≠ k ∧ h2 ≠ k ∧ w.heap.size ≤ k := fun k hk => by
    have := HIN.out k ((ownBlock_any A2 L.length c2 L.length 0).trans hk)
    omega
  have HSOFT := Lib.hid hsoft
  clear hsoft hW5 hg2 HIN
  go_loopw [36] (fun iv wr => ∃ i : Nat, iv = .int .i64 i ∧ i ≤ L.length ∧ Soft W5 wr A2 L.length) (fun iv _ => L.length - (intOf iv).toNat)
  case atStart => exact ⟨0, rfl, Nat.zero_le _, hS0⟩
  case round =>
    obtain ⟨i, rfl, hi1, hS'⟩ := hrel
    by_cases hlt : i < L.length
    · obtain ⟨gx, z, rfl, cz, fz, hS2⟩ := hS'.at hlt
      have HS2 := Lib.hid hS2
      clear hS2
      go_wp2
      go_roundw
      case rel => exact ⟨i + 1, by go_num, by omega, HS2.out _⟩
      case measure => simp [intOf]; omega
    · have b1 := b0.soft hS'.1 HSOFT.out
      clear hS' hS0 b0 HSOFT
      go_wp2_with fail
      clear hlt
      go_loopw [50] (fun iv wr => ∃ (j : Nat) (l : List Int) (x : Int), iv = .int .i64 j ∧ j ≤ os.length ∧ Both w wr g h g2 h2 L l x) (fun iv _ => os.length - (intOf iv).toNat)
      case atStart => exact ⟨0, L, 0, rfl, Nat.zero_le _, b1⟩
      case round =>
        obtain ⟨j, l, x, rfl, hj1, b⟩ := hrel
        clear b1
        by_cases hlt : j < os.length
        · obtain ⟨ad, rfl, _, ck, cn⟩ := (hr1.below b.bel (fun _ h _ => h)).two hlt
          obtain ⟨k, hk⟩ : ∃ k, k = os[j].1 := ⟨_, rfl⟩
          obtain ⟨n, hn⟩ : ∃ n, n = os[j].2 := ⟨_, rfl⟩
          rw [← hk] at ck
          rw [← hn] at cn
          clear hk hn
          by_cases h1 : k = 1
          · subst h1
            obtain ⟨s1, s2, s3, hs⟩ : ∃ s1 s2 s3, V.intS l x = (s1, s2, s3) := ⟨_, _, _, rfl⟩
            have HS := Lib.hid hs
            have hvv : (s1 != s1) = false := by simp
            clear hs
            have b' := b.alloc (.cells #[.int .i64 1, .int .i64 n] 39)
            go_wp2_with fail
            refine (int_all b'.r).mono ?_
            rw [HS.out]
            rintro e w8 ⟨rfl, hr8, hg8⟩
            have hm8 := b'.m.grown hg8 (by have := b'.gg; simp; omega) (by have := b'.gh; simp; omega)
            go_wp2_with fail
            refine (rint_all hm8).mono ?_
            rw [HS.out]
            rintro e w9 ⟨rfl, hm9, hg9⟩
            have b9 := b'.step hr8 hg8 hm9 hg9
            clear b b' hr8 hg8 hm8 hm9 hg9
            obtain ⟨Az, cz, pz, z0, z1, z2, hpz⟩ := b9.m.cells
            have hrz := b9.r
            have hxx : (s3 != s3) = false := by simp
            have hw1 : IntKind.i64.wrap ((L.length : Int) - (pz : Int)) = (L.length : Int) - (pz : Int) := IntWalk.i64_in _ (by omega)
            have hw2 : ((s2.length : Int) != (L.length : Int) - (pz : Int)) = false := by simp; omega
            go_wp2_with fail
            go_quiet (first | (go_at_call 19; exact quiet_same (err_any (hrz.drewN _))) | (go_at_call 20; exact quiet_same (left_any (hrz.drewN _))))
            clear hw1 hw2 hxx z0 z1 z2
            go_wp2
            go_roundw
            case rel => exact ⟨j + 1, s2, s3, by go_num, by omega, b9.new (((Drew.refl _).more _).below _)⟩
            case measure => simp [intOf]; omega
          · have h1' : (k == 1) = false := by simpa using h1
            by_cases h2k : k = 2
            · subst h2k
              obtain ⟨s1, s2, s3, hs⟩ : ∃ s1 s2 s3, V.bytesS l x n = (s1, s2, s3) := ⟨_, _, _, rfl⟩
              have HS := Lib.hid hs
              have hsl : s1.length ≤ l.length := by have := V.bytesS_len l x n; rw [hs] at this; exact this
              have hll : l.length ≤ 1000000 := b.r.2.2.2.1
              clear hs h1 h1'
              have b' := b.alloc (.cells #[.int .i64 2, .int .i64 n] 39)
              have hbo := Blo.made wr 39 #[.int .i64 2, .int .i64 n]
              have lg := b.r.lt
              have lg2 := b.m.lt
              have lh := b.r.lth
              have lh2 := b.m.lth
              have hgg := b.gg
              have hgh := b.gh
              go_wp2_with fail
              refine (bytes_all b'.r).mono ?_
              rw [HS.out]
              rintro e w8 ⟨A8, c8, rfl, hown8, hr8, hg8⟩
              have hm8 := b'.m.grown hg8 (by simp; omega) (by simp; omega)
              have hbo8 := hbo.grown hg8 (by simp; omega)
              have co8 := hbo8.cell 1
              simp at co8
              go_wp2_with fail
              refine (rbytes_all hm8).mono ?_
              rw [HS.out]
              rintro e w9 ⟨A9, c9, rfl, hown9, hm9, hg9⟩
              have b9 := b'.step hr8 hg8 hm9 hg9
              have hown89 := own_keep hown8 fun k hk hl => hg9.block k hl (by have := (hown8.lt k hk).1; simp at this ⊢; omega)
              have hk : ∀ k, (Value.slice A8 s1.length 0).ownBlock = some k → wr.heap.size < k := fun k hk => by
                have := (hown8.lt k ((ownBlock_any A8 s1.length c8 s1.length 0).trans hk)).1
                simp at this; omega
              have HK := Lib.hid hk
              clear hk b' hbo hm8 hbo8 co8 hr8 hg8 hm9 hg9 hown8
              go_wp2_with fail
              refine (same_yes _ _ _ _ _ _ s1 w9 (own_rds hown89) (own_rds hown9) (by omega)).mono ?_
              rintro e w10 ⟨rfl, hd⟩
              have b10 := b9.new (hd.below _)
              have hS := Soft.start (hd.own hown89)
              clear hown89 hown9 b9 hd
              go_wp2_with fail
              go_loopw [78] (fun iv wq => ∃ i : Nat, iv = .int .i64 i ∧ i ≤ s1.length ∧ Soft w10 wq A8 s1.length) (fun iv _ => s1.length - (intOf iv).toNat)
              case atStart => exact ⟨0, rfl, Nat.zero_le _, hS⟩
              case round =>
                obtain ⟨i3, rfl, hi3, hS'⟩ := hrel
                by_cases hlt3 : i3 < s1.length
                · obtain ⟨gx, z, rfl, cz, fz, hS2⟩ := hS'.at hlt3
                  have HS2 := Lib.hid hS2
                  clear hS2
                  go_wp2
                  go_roundw
                  case rel => exact ⟨i3 + 1, by go_num, by omega, HS2.out _⟩
                  case measure => simp [intOf]; omega
                · have b11 := b10.soft hS'.1 fun k hk => by have := HK.out k hk; have := b.bel.size; omega
                  clear hS' hS b10
                  obtain ⟨Az, cz, pz, z0, z1, z2, hpz⟩ := b11.m.cells
                  have hrz := b11.r
                  have hxx : (s3 != s3) = false := by simp
                  have hw1 : IntKind.i64.wrap ((L.length : Int) - (pz : Int)) = (L.length : Int) - (pz : Int) := IntWalk.i64_in _ (by omega)
                  have hw2 : ((s2.length : Int) != (L.length : Int) - (pz : Int)) = false := by simp; omega
                  go_wp2_with fail
                  go_quiet (first | (go_at_call 19; exact quiet_same (err_any (hrz.drewN _))) | (go_at_call 20; exact quiet_same (left_any (hrz.drewN _))))
                  clear hw1 hw2 hxx z0 z1 z2
                  go_wp2
                  go_roundw
                  case rel => exact ⟨j + 1, s2, s3, by go_num, by omega, b11.new (((Drew.refl _).more _).below _)⟩
                  case measure => simp [intOf]; omega
            · have h2' : (k == 2) = false := by simpa using h2k
              by_cases h3k : k = 3
              · subst h3k
                clear h1 h1' h2k h2'
                have b' := b.alloc (.cells #[.int .i64 3, .int .i64 n] 39)
                have ht1 : n.tmod 17 < 17 := Int.tmod_lt_of_pos n (by decide)
                have ht2 : -17 < n.tmod 17 := by have := Int.lt_tmod_of_pos n (b := 17) (by decide); omega
                by_cases hneg : n.tmod 17 < 0
                · go_wp2_with fail
                  refine (fail_any b'.r).mono ?_
                  rintro e w8 ⟨rfl, hr8, hg8⟩
                  have hm8 := b'.m.grown hg8 (by have := b'.gg; simp; omega) (by have := b'.gh; simp; omega)
                  go_wp2_with fail
                  refine (rfail_all hm8).mono ?_
                  rintro e w9 ⟨rfl, hm9, hg9⟩
                  obtain ⟨y, hy⟩ : ∃ y, y = (if x = 0 then -n.tmod 17 else x) := ⟨_, rfl⟩
                  rw [← hy] at hr8 hm9
                  have b9 := b'.step hr8 hg8 hm9 hg9
                  clear b b' hr8 hg8 hm8 hm9 hg9 hy ht1 ht2 hneg
                  obtain ⟨Az, cz, pz, z0, z1, z2, hpz⟩ := b9.m.cells
                  have hrz := b9.r
                  have hxx : (y != y) = false := by simp
                  have hw1 : IntKind.i64.wrap ((L.length : Int) - (pz : Int)) = (L.length : Int) - (pz : Int) := IntWalk.i64_in _ (by omega)
                  have hw2 : ((l.length : Int) != (L.length : Int) - (pz : Int)) = false := by simp; omega
                  go_wp2_with fail
                  go_quiet (first | (go_at_call 19; exact quiet_same (err_any (hrz.drewN _))) | (go_at_call 20; exact quiet_same (left_any (hrz.drewN _))))
                  clear hw1 hw2 hxx z0 z1 z2
                  go_wp2
                  go_roundw
                  case rel => exact ⟨j + 1, l, y, by go_num, by omega, b9.new (((Drew.refl _).more _).below _)⟩
                  case measure => simp [intOf]; omega
                · go_wp2_with fail
                  refine (fail_any b'.r).mono ?_
                  rintro e w8 ⟨rfl, hr8, hg8⟩
                  have hm8 := b'.m.grown hg8 (by have := b'.gg; simp; omega) (by have := b'.gh; simp; omega)
                  go_wp2_with fail
                  refine (rfail_all hm8).mono ?_
                  rintro e w9 ⟨rfl, hm9, hg9⟩
                  obtain ⟨y, hy⟩ : ∃ y, y = (if x = 0 then n.tmod 17 else x) := ⟨_, rfl⟩
                  rw [← hy] at hr8 hm9
                  have b9 := b'.step hr8 hg8 hm9 hg9
                  clear b b' hr8 hg8 hm8 hm9 hg9 hy ht1 ht2 hneg
                  obtain ⟨Az, cz, pz, z0, z1, z2, hpz⟩ := b9.m.cells
                  have hrz := b9.r
                  have hxx : (y != y) = false := by simp
                  have hw1 : IntKind.i64.wrap ((L.length : Int) - (pz : Int)) = (L.length : Int) - (pz : Int) := IntWalk.i64_in _ (by omega)
                  have hw2 : ((l.length : Int) != (L.length : Int) - (pz : Int)) = false := by simp; omega
                  go_wp2_with fail
                  go_quiet (first | (go_at_call 19; exact quiet_same (err_any (hrz.drewN _))) | (go_at_call 20; exact quiet_same (left_any (hrz.drewN _))))
                  clear hw1 hw2 hxx z0 z1 z2
                  go_wp2
                  go_roundw
                  case rel => exact ⟨j + 1, l, y, by go_num, by omega, b9.new (((Drew.refl _).more _).below _)⟩
                  case measure => simp [intOf]; omega
              · have h3' : (k == 3) = false := by simpa using h3k
                have b' := b.alloc (.cells #[.int .i64 k, .int .i64 n] 39)
                clear h1 h2k h3k b
                obtain ⟨Az, cz, pz, z0, z1, z2, hpz⟩ := b'.m.cells
                have hrz := b'.r
                have hxx : (x != x) = false := by simp
                have hw1 : IntKind.i64.wrap ((L.length : Int) - (pz : Int)) = (L.length : Int) - (pz : Int) := IntWalk.i64_in _ (by omega)
                have hw2 : ((l.length : Int) != (L.length : Int) - (pz : Int)) = false := by simp; omega
                go_wp2_with fail
                go_quiet (first | (go_at_call 19; exact quiet_same (err_any (hrz.drewN _))) | (go_at_call 20; exact quiet_same (left_any (hrz.drewN _))))
                clear hw1 hw2 hxx z0 z1 z2
                go_wp2
                go_roundw
                case rel => exact ⟨j + 1, l, x, by go_num, by omega, b'.new (((Drew.refl _).more _).below _)⟩
                case measure => simp [intOf]; omega
        · have hb := b.bel
          go_wp2
          go_ret
          exact ⟨rfl, hb⟩

theorem vintReads_walk {H : Type} (enc : TypeId × Value → H) (v0 v1 : Value) (w : World) (base : Nat) (d0 : DataW H) (p0 : List MemPlace) (d1 : DataW H) (p1 : List MemPlace)
    (o0 : Value.okWide Try.prog w .any base 22 v0) (k0 : DataW.Trod enc Try.prog w 0 (fun _ => true) true 22 v0 d0 p0)
    (o1 : Value.okWide Try.prog w .any base 32 v1) (k1 : DataW.Trod enc Try.prog w 0 (fun _ => true) true 32 v1 d1 p1) :
    Calls Try.prog 4 #[v0, v1] w fun e w' => e = .returned (.bool true) ∧ Below w.heap.size w w' := by
  obtain ⟨a0, len0, cap0, zs, rfl, h0⟩ := arg_ints Try.underlying22 Try.underlying5 (by kernel_rfl) o0 k0
  obtain ⟨a1, len1, cap1, os, rfl, hl1, hc1, hc2, h1⟩ := arg_pairs Try.underlying32 Try.underlying39 (by kernel_rfl) rfl rfl (by kernel_rfl) (by kernel_rfl) Try.underlying3 Try.underlying3 o1 k1
  have l0 := h0.len
  by_cases hl : 1000 < len0 ∨ 200 < len1
  · refine vintReads_big a0 a1 len0 cap0 len1 cap1 w hl ?_ (by omega)
    rcases h0 with ⟨_, h, _⟩ | ⟨_, _, h1, h2, _⟩ <;> omega
  · have e0 : (.slice a0 len0 cap0 : Value) = .slice a0 (zs.take len0).length cap0 := by rw [l0.1]
    have e1 : (.slice a1 len1 cap1 : Value) = .slice a1 os.length cap1 := by rw [hl1]
    rw [e0, e1]
    exact vintReads_main a0 a1 cap0 cap1 _ os w h0.rds h0.byt h1 (by rw [l0.1]; omega) (by omega)

end Go.Proofs.Ytgfemdimnkeglaa
