/- The walk of VintBack. -/
import Derived.Test.YtgfemdimnkeglaaVintAlive
namespace Go.Proofs.Ytgfemdimnkeglaa
open Go.ChangeShapes Go.WideShapes Go.ChangeAt Go.RowKit

set_option maxHeartbeats 1000000 in
theorem vintBack_big (a0 a1 : Option Addr) (len0 cap0 len1 cap1 : Nat) (w : World) (hl : 200 < len0 ∨ 500 < len1) (h0 : len0 ≤ maxLen) (h1 : len1 ≤ maxLen) :
    Calls Try.prog 5 #[.slice a0 len0 cap0, .slice a1 len1 cap1] w fun e w' => e = .returned (.bool true) ∧ Below w.heap.size w w' := by
  unfold maxLen at h0 h1
  by_cases h2 : 200 < len0
  all_goals
    have h3 : 200 < len0 ∨ 500 < len1 := hl
    clear hl
    go_enter Try.func5, Try.ntmps5
    go_wp2_with fail
    refine (alive_yes w).mono ?_
    rintro e w1 ⟨rfl, hb⟩
    first
      | have h4 : 500 < len1 := by omega
      | skip
    clear h3
    go_wp2
    go_ret
    exact ⟨rfl, hb⟩

/-- What the first loop has put. -/
structure Loop1 (w wr : World) (o : List Int) (bv ov : Value) : Prop where
  ok : ∀ n ∈ o, 0 ≤ n ∧ n ≤ 1099511627776
  b : wr.ownsRow w.heap.size 5 1 bv (V.encs o).length (u8s (V.encs o))
  o : wr.ownsRow w.heap.size 3 1 ov o.length (i64s o)
  bel : Below w.heap.size w wr

theorem Loop1.step {w wr w1 w2 : World} {o : List Int} {bv ov ov' : Value} {n : Int} {A : Option Addr} {c : Nat} {ob : Obj} (h : Loop1 w wr o bv ov) (h0 : 0 ≤ n) (h1 : n ≤ 1099511627776)
    (hown : w1.ownsRow wr.heap.size 5 1 (.slice A (V.encs o ++ V.enc n).length c) (V.encs o ++ V.enc n).length (u8s (V.encs o ++ V.enc n))) (hb : Below wr.heap.size wr w1)
    {n' : Nat} {xs' : List Value} (hown' : w2.ownsRow w.heap.size 3 1 ov' n' xs') (hn : n' = o.length + 1) (hx : xs' = i64s o ++ [.int .i64 n]) (hg : (w1.alloc ob).grownBy w2 ov.ownBlock) :
    Loop1 w w2 (o ++ [n]) (.slice A (V.encs o ++ V.enc n).length c) ov' := by
  have ho1 := own_keep h.o fun k _ hk => hb.block k hk
  refine ⟨?_, ?_, ?_, ?_⟩
  · intro m hm
    rcases List.mem_append.1 hm with hm | hm
    · exact h.ok m hm
    · simp at hm; subst hm; exact ⟨h0, h1⟩
  · rw [V.encs_snoc]
    exact ((own_mono hown h.bel.size).alloc ob).kept hg (own_apart hown ho1 (by decide))
  · have e : i64s (o ++ [n]) = i64s o ++ [.int .i64 n] := by simp
    rw [e, ← hx, List.length_append, List.length_singleton, ← hn]
    exact hown'
  · have hs := h.bel.size
    have hs1 := hb.size
    exact ((h.bel.trans (hb.mono hs)).alloc (by omega) ob).grown hg (by simp; omega) fun k hk => (h.o.lt k hk).1

/-- Put of a number alone, its bytes by a name. -/
def PutX (x : List Int) (w : World) (e : Ending) (w' : World) : Prop :=
  ∃ A c, e = .returned (.tuple #[.slice A x.length c, .int .i64 0]) ∧ w'.ownsRow w.heap.size 5 1 (.slice A x.length c) x.length (u8s x) ∧ Below w.heap.size w w'
theorem put_x (n : Int) (x : List Int) (w : World) (h0 : 0 ≤ n) (h1 : n ≤ 1099511627776) (hx : x = V.enc n) : Calls Try.prog 8 #[.slice none 0 0, .int .i64 n] w (PutX x w) := by
  subst hx
  exact put_yes (fun _ => True) none 0 [] n w Rds.nil (by simp) h0 h1
theorem new_n (S : Nat → Prop) (A : Option Addr) (c n : Nat) (l : List Int) (w : World) (hr : Rds w S A (u8s l)) (hn : n = l.length) (hl : l.length ≤ 1000000) (hB : Byt l) :
    Calls Try.prog 12 #[.slice A n c] w (NewPost l w) := by
  subst hn
  exact new_any S A c l w hr hl hB

/-- What Int leaves, all by names: r, what it has left. -/
def IntX (g h : Nat) (n : Int) (rest : List Int) (x : Int) (w : World) (e : Ending) (w' : World) : Prop := e = .returned (.int .i64 n) ∧ Rdr w' g h rest x ∧ w.grownBy w' (some g)
theorem int_x {g h : Nat} {l rest : List Int} {n x : Int} {k : Nat} {w : World} (hr : Rdr w g h l 0) (hv : V.int l = (n, k, x)) (hd : l.drop k = rest) :
    Calls Try.prog 13 #[.pointer (some ⟨g, 0, none⟩)] w (IntX g h n rest x w) := by
  have := int_any hr
  unfold IntPost at this
  rw [hv, hd] at this
  exact this

/-- How the third loop stands: what it has put again, and what is left. -/
structure Loop3 (w w0 wr : World) (g h : Nat) (M ag rest : List Int) (av : Value) : Prop where
  eq : ag ++ rest = M
  r : Rdr wr g h rest 0
  a : wr.ownsRow w0.heap.size 5 1 av ag.length (u8s ag)
  bel : Below w.heap.size w wr
  siz : w0.heap.size ≤ wr.heap.size

theorem Loop3.fail {w w0 wr w1 : World} {g h : Nat} {M ag rest : List Int} {av : Value} (h3 : Loop3 w w0 wr g h M ag rest av) (hg : wr.grownBy w1 (some g)) (hgw : w.heap.size ≤ g) (hgl : g < w0.heap.size) :
    w1.ownsRow w0.heap.size 5 1 av ag.length (u8s ag) ∧ Below w.heap.size w w1 :=
  ⟨own_keep h3.a fun k hk hl => hg.block k hl (by have := (h3.a.lt k hk).1; simp; omega), h3.bel.grown hg h3.bel.size fun k hk => by injection hk with hk; omega⟩

theorem Loop3.step {w w0 wr w1 w2 w3 : World} {g h : Nat} {M ag rest rest' x : List Int} {av av' : Value} {A : Option Addr} {c : Nat} (h3 : Loop3 w w0 wr g h M ag rest av) (he : rest = x ++ rest')
    (hr : Rdr w1 g h rest' 0) (hg : wr.grownBy w1 (some g)) (hgw : w.heap.size ≤ g) (hgl : g < w0.heap.size) (hhl : h < w0.heap.size)
    (_ : w2.ownsRow w1.heap.size 5 1 (.slice A x.length c) x.length (u8s x)) (hb : Below w1.heap.size w1 w2)
    {n' : Nat} {xs' : List Value} (ha : w3.ownsRow w0.heap.size 5 1 av' n' xs') (hn : n' = ag.length + x.length) (hxs : xs' = u8s ag ++ u8s x) (hg3 : w2.grownBy w3 av.ownBlock) :
    Loop3 w w0 w3 g h M (ag ++ x) rest' av' := by
  obtain ⟨f1, f2⟩ := h3.fail hg hgw hgl
  have hs := hg.size
  have hs2 := hb.size
  have hs3 := hg3.size
  have hs0 := h3.siz
  have hbl : ∀ k, av.ownBlock = some k → w0.heap.size ≤ k := fun k hk => (h3.a.lt k hk).1
  refine ⟨by rw [List.append_assoc, ← he]; exact h3.eq, ?_, ?_, ?_, by omega⟩
  · exact (hr.new hb).grown hg3 (fun e => by have := hbl g e.symm; omega) (fun e => by have := hbl h e.symm; omega)
  · have e : u8s (ag ++ x) = u8s ag ++ u8s x := by simp
    rw [e, ← hxs, List.length_append, ← hn]
    exact ha
  · have := f2.size
    exact (f2.trans (hb.mono this)).grown hg3 (by omega) fun k hk => by have := hbl k hk; omega

set_option maxHeartbeats 4000000 in
theorem vintBack_main (a0 a1 : Option Addr) (cap0 cap1 : Nat) (L M : List Int) (w : World) (hr0 : Rds w (· < w.heap.size) a0 (i64s L)) (hr1 : Rds w (· < w.heap.size) a1 (u8s M)) (hB : Byt M) (hl0 : L.length ≤ 200) (hl1 : M.length ≤ 500) (hc1 : M.length ≤ cap1) :
    Calls Try.prog 5 #[.slice a0 L.length cap0, .slice a1 M.length cap1] w fun e w' => e = .returned (.bool true) ∧ Below w.heap.size w w' := by
  obtain ⟨i0, hi, hz0, hz1, hz2⟩ := info_parts Try.rowU8
  obtain ⟨j0, hj, hy0, hy1, hy2⟩ := info_parts Try.rowI64
  go_enter Try.func5, Try.ntmps5
  go_wp2_with fail
  refine (alive_yes w).mono ?_
  rintro e w1 ⟨rfl, hb1⟩
  have hS : Loop1 w w1 [] (.slice none 0 0) (.slice none 0 0) := ⟨by simp, World.ownsRow_nil _ _ _ _, World.ownsRow_nil _ _ _ _, hb1⟩
  clear hb1
  go_wp2_with fail
  go_loopw [5, 6, 31] (fun bv ov iv wr => ∃ (i : Nat) (o : List Int), iv = .int .i64 i ∧ i ≤ L.length ∧ o.length ≤ i ∧ Loop1 w wr o bv ov) (fun _ _ iv _ => L.length - (intOf iv).toNat)
  case atStart => exact ⟨0, [], rfl, by omega, by simp, hS⟩
  case round =>
    obtain ⟨i, o, rfl, hi1, ho, hL⟩ := hrel
    have hbel := hL.bel
    obtain ⟨Ab, cb, rfl, _, _⟩ := own_form hL.b
    have hel := V.encs_len o hL.ok
    by_cases hlt : i < L.length
    · obtain ⟨ad, rfl, _, hce⟩ := (hr0.below hbel (fun _ h _ => h)).int hlt
      obtain ⟨n, hn⟩ : ∃ n, n = L[i] := ⟨_, rfl⟩
      rw [← hn] at hce
      clear hn
      by_cases hok : 0 ≤ n ∧ n ≤ 1099511627776
      · obtain ⟨hk0, hk1⟩ := hok
        go_wp2_with fail
        refine (put_yes _ _ _ (V.encs o) n wr (own_rds hL.b) (by omega) hk0 hk1).mono ?_
        rintro e w2 ⟨A2, c2, rfl, hown2, hb2⟩
        go_wp2_with (at_builtin; refine wpList_app _ rfl _ _ 46 rfl w.heap.size 3 j0 (.int .i64 0) 8 Try.underlying46 hj hy0 hy1 hy2 rfl _ _ _ rfl ((own_keep hL.o fun k _ hk => hb2.block k hk).alloc _) _ _ 1 1 [.int .i64 n] rfl rfl (one_rds _ _ _ _) (one_ints _ [_]) (by unfold maxLen; omega) (by omega) (by have := hbel.size; have := hb2.size; simp; omega) ?_)
        intro v' w3 hown' hg' _
        have R := hL.step hk0 hk1 hown2 hb2 hown' (by simp) (by simp) hg'
        rw [List.length_append] at R
        clear hown' hg' hown2 hb2 hL
        go_wp2
        go_roundw
        case rel => exact ⟨i + 1, o ++ [n], by go_num, by omega, by simp; omega, R⟩
        case measure => simp [intOf]; omega
      · rcases (show n < 0 ∨ 1099511627776 < n by omega) with hk | hk
        · clear hok
          go_wp2_with fail
          refine (put_no _ _ _ n wr (.inl hk)).mono ?_
          rintro e w2 ⟨rfl, rfl⟩
          go_wp2
          go_roundw
          case rel => exact ⟨i + 1, o, by go_num, by omega, by omega, hL⟩
          case measure => simp [intOf]; omega
        · clear hok
          have hk0 : 0 ≤ n := by omega
          go_wp2_with fail
          refine (put_no _ _ _ n wr (.inr hk)).mono ?_
          rintro e w2 ⟨rfl, rfl⟩
          go_wp2
          go_roundw
          case rel => exact ⟨i + 1, o, by go_num, by omega, by omega, hL⟩
          case measure => simp [intOf]; omega
    · obtain ⟨Ao, co, rfl, _, _⟩ := own_form hL.o
      have hs := hbel.size
      have hr1' := hr1.below hbel (fun _ h _ => h)
      have hb' := own_rds hL.b
      have hown0 : (wr.alloc (.cells #[] 5)).ownsRow wr.heap.size 5 1 (.slice (some ⟨wr.heap.size, 0, none⟩) 0 0) 0 [] := World.ownsRow_lit wr #[] 0 (Nat.le_refl _) (by unfold maxLen; omega) rfl
      have hg0 : wr.grownBy (wr.alloc (.cells #[] 5)) none := World.grownBy_alloc _ _ _
      go_wp2_with (at_builtin; refine wpList_app _ rfl (.tmp 58) (.tmp 59) 22 rfl wr.heap.size 5 i0 (.int .u8 0) 1 Try.underlying22 hi hz0 hz1 hz2 rfl _ _ _ rfl hown0 _ Ab (V.encs o).length cb (u8s (V.encs o)) rfl (by simp) (hb'.new (below_gb hg0)) (one_ints _ _) (by unfold maxLen; omega) (by omega) hg0.size ?_)
      intro v3 w3 hown3 hg3 _
      have hb3 : Below wr.heap.size wr w3 := (below_gb hg0).grown hg3 hg0.size (fun k hk => by simp [Value.ownBlock] at hk; omega)
      clear hg3 hown0 hg0
      go_wp2_with (at_builtin; refine wpList_app _ rfl (.tmp 60) (.tmp 61) 22 rfl wr.heap.size 5 i0 (.int .u8 0) 1 Try.underlying22 hi hz0 hz1 hz2 rfl _ _ _ rfl hown3 _ a1 M.length cap1 (u8s M) rfl (by simp) (hr1'.new hb3) (one_ints _ _) (by unfold maxLen; omega) (by omega) hb3.size ?_)
      intro v4 w4 hown4 hg4 _
      have hb4 : Below wr.heap.size wr w4 := hb3.grown hg4 hb3.size (fun k hk => (hown3.lt k hk).1)
      obtain ⟨A4, c4, rfl, _, _⟩ := own_form hown4
      have hr4 : Rds w4 (fun _ => True) A4 (u8s (V.encs o ++ M)) := by simpa using (own_rds hown4).mono (S' := fun _ => True) fun _ _ => trivial
      have ho4 : Rds w4 (· < wr.heap.size) Ao (i64s o) := ((own_rds hL.o).old.new hb4).mono fun b hb => hb.2
      have hB4 : Below w.heap.size w w4 := hbel.trans (hb4.mono hs)
      have hok := hL.ok
      have HOK := Lib.hid hok
      have hs4 := hb4.size
      clear hok hown4 hg4 hown3 hb3 hb4 hb' hL
      go_wp2_with fail
      refine (new_n _ _ _ _ (V.encs o ++ M) w4 hr4 (by simp) (by simp; omega) ((show Byt _ from V.encs_byt o HOK.out).app hB)).mono ?_
      rintro e w5 ⟨g, h, rfl, hr5, hg5, hh5, hb5⟩
      have ho5 := ho4.new hb5
      have hB5 : Below w.heap.size w w5 := hB4.trans (hb5.mono (by omega))
      have hs5 := hb5.size
      clear ho4 hB4 hb5 hr4
      obtain ⟨B0, hB0⟩ : ∃ B0, B0 = wr.heap.size := ⟨_, rfl⟩
      have ho6 : Rds w5 (· < B0) Ao (i64s o) := ho5.mono fun b hb => by omega
      have hg6 : B0 ≤ g := by omega
      have hh6 : B0 ≤ h := by omega
      have hw6 : w.heap.size ≤ B0 := by omega
      clear ho5 hB0 hg5 hh5 hbel hs hs4 hs5 hlt hr1'
      go_wp2_with fail
      go_loopw [66] (fun jv wr2 => ∃ j : Nat, jv = .int .i64 j ∧ j ≤ o.length ∧ Rdr wr2 g h (V.encs (o.drop j) ++ M) 0 ∧ Rds wr2 (· < B0) Ao (i64s o) ∧ Below w.heap.size w wr2) (fun jv _ => o.length - (intOf jv).toNat)
      case atStart => exact ⟨0, rfl, Nat.zero_le _, by simpa using hr5, ho6, hB5⟩
      case round =>
        obtain ⟨j, rfl, hj1, hr7, ho7, hB7⟩ := hrel
        clear hr5 ho6 hB5
        by_cases hlt : j < o.length
        · obtain ⟨ad, rfl, _, hce⟩ := ho7.int hlt
          obtain ⟨n, hn⟩ : ∃ n, n = o[j] := ⟨_, rfl⟩
          rw [← hn] at hce
          have hnk := HOK.out n (by rw [hn]; exact List.getElem_mem hlt)
          obtain ⟨hv, hd⟩ := V.int_encs (l := o.drop (j + 1)) (M := M) hnk.1 hnk.2
          rw [hn, ← List.drop_eq_getElem_cons hlt, ← hn] at hv hd
          have hnn : (n != n) = false := by simp
          have hne : some h ≠ some g → True := fun _ => trivial
          clear hn hnk
          have HV := Lib.hid hv
          have HD := Lib.hid hd
          clear hv hd hne
          go_wp2_with fail
          refine (int_x hr7 HV.out HD.out).mono ?_
          rintro e w8 ⟨rfl, hr8, hgb⟩
          have ho8 := ho7.grown hgb fun b hb _ e => by injection e with e; omega
          have hB8 := hB7.grown hgb hB7.size fun k hk => by injection hk with hk; omega
          clear hr7 ho7 hB7 hgb
          go_wp2_with fail
          refine (err_any hr8).mono ?_
          rintro e w9 ⟨rfl, rfl⟩
          go_wp2
          go_roundw
          case rel => exact ⟨j + 1, by go_num, by omega, hr8, ho8, hB8⟩
          case measure => simp [intOf]; omega
        · have hr8 : Rdr wr g h M 0 := by
            have := hr7
            rw [List.drop_eq_nil_of_le (by omega)] at this
            exact this
          have hmm : ((M.length : Int) != (M.length : Int)) = false := by simp
          clear hr7 ho7
          go_wp2_with fail
          refine (left_any hr8).mono ?_
          rintro e w9 ⟨rfl, rfl⟩
          have h3 : Loop3 w wr wr g h M [] M (.slice none 0 0) := ⟨rfl, hr8, World.ownsRow_nil _ _ _ _, hB7, Nat.le_refl _⟩
          obtain ⟨W0, hW0⟩ : ∃ W0, W0 = wr := ⟨_, rfl⟩
          have h3' : Loop3 w W0 wr g h M [] M (.slice none 0 0) := by rw [hW0]; exact h3
          have hgl : g < W0.heap.size := by rw [hW0]; exact hr8.lt
          have hhl : h < W0.heap.size := by rw [hW0]; exact hr8.lth
          have hwl : w.heap.size ≤ W0.heap.size := by rw [hW0]; exact hB7.size
          have hgw : w.heap.size ≤ g := by omega
          have hr1' : Rds w (· < w.heap.size) a1 (u8s M) := hr1
          clear h3 hr8 hB7 hW0
          go_wp2_with fail
          go_loopw [14] (fun av wr => ∃ ag rest, Loop3 w W0 wr g h M ag rest av) (fun av _ => M.length - lenOf av)
          case atStart => exact ⟨[], M, h3'⟩
          case round =>
            obtain ⟨ag, rest, h3⟩ := hrel
            clear h3'
            have hrr := h3.r
            have hMl : ag.length + rest.length = M.length := by rw [← h3.eq]; simp
            obtain ⟨Aa, ca, rfl, _, _⟩ := own_form h3.a
            by_cases hne : rest = []
            · have hl0 : rest.length = 0 := by rw [hne]; rfl
              have hR : Rds wr (· < w.heap.size) a1 (u8s ag) := by
                have e : M.take ag.length = ag := by rw [← h3.eq]; simp
                have := (hr1.below h3.bel (fun _ h _ => h)).take ag.length
                rwa [← List.map_take, e] at this
              have hA := own_rds h3.a
              have hB9 := h3.bel
              clear h3 hne
              have h0' : decide (0 < rest.length) = false := decide_eq_false (by omega)
              go_wp2_with fail
              refine (err_any hrr).mono ?_
              rintro e w9 ⟨rfl, rfl⟩
              go_wp2_with fail
              refine (left_any hrr).mono ?_
              rintro e w9 ⟨rfl, rfl⟩
              go_wp2_with fail
              refine (same_yes _ _ _ _ _ _ ag wr hA hR (by omega)).mono ?_
              rintro e w9 ⟨rfl, hd⟩
              go_wp2
              go_ret
              exact ⟨rfl, hB9.trans (hd.below _)⟩
            · have hl0 : 0 < rest.length := by cases rest with | nil => exact absurd rfl hne | cons a b => simp
              obtain ⟨n, k, x, hv⟩ : ∃ n k x, V.int rest = (n, k, x) := ⟨_, _, _, rfl⟩
              obtain ⟨rest', hrest'⟩ : ∃ rest', rest.drop k = rest' := ⟨_, rfl⟩
              have HV := Lib.hid hv
              have HD := Lib.hid hrest'
              by_cases hx : x = 0
              · subst hx
                obtain ⟨q1, q2, q3, q4⟩ := V.int_back (l := rest) (hrr.2.2.1) (by rw [hv])
                rw [hv] at q1 q2 q3 q4
                simp only at q1 q2 q3 q4
                obtain ⟨y, hy⟩ : ∃ y, y = V.enc n := ⟨_, rfl⟩
                have hyp := V.enc_pos n
                rw [← hy] at q1 q2 hyp
                rw [hrest'] at q1
                have hlen : rest.length = y.length + rest'.length := by rw [q1]; simp
                have hz : ((y.length : Int) != (rest.length : Int) - (rest'.length : Int)) = false := by simp; omega
                have HY := Lib.hid hy
                have HQ := Lib.hid q1
                clear hv hrest' hy q1 q2
                go_wp2_with fail
                refine (err_any hrr).mono ?_
                rintro e w9 ⟨rfl, rfl⟩
                go_wp2_with fail
                refine (left_any hrr).mono ?_
                rintro e w9 ⟨rfl, rfl⟩
                go_wp2_with fail
                refine (left_any hrr).mono ?_
                rintro e w9 ⟨rfl, rfl⟩
                go_wp2_with fail
                refine (int_x hrr HV.out HD.out).mono ?_
                rintro e w8 ⟨rfl, hr8, hgb⟩
                go_wp2_with fail
                refine (err_any hr8).mono ?_
                rintro e w9 ⟨rfl, rfl⟩
                go_wp2_with fail
                refine (put_x n y w8 q3 q4 HY.out).mono ?_
                rintro e w9 ⟨A9, c9, rfl, hown9, hb9⟩
                go_wp2_with fail
                refine (left_any (hr8.new hb9)).mono ?_
                rintro e w10 ⟨rfl, rfl⟩
                have f1 := (h3.fail hgb hgw hgl).1
                have f2 := own_keep f1 fun k _ hk => hb9.block k hk
                go_wp2_with (at_builtin; refine wpList_app _ rfl _ _ 22 rfl W0.heap.size 5 i0 (.int .u8 0) 1 Try.underlying22 hi hz0 hz1 hz2 rfl _ _ _ rfl f2 _ A9 y.length c9 (u8s y) rfl (by simp) (own_rds hown9) (one_ints _ _) (by unfold maxLen; omega) (by omega) (by have := h3.siz; have := hgb.size; have := hb9.size; omega) ?_)
                intro v11 w11 hown11 hg11 _
                have R := h3.step HQ.out hr8 hgb hgw hgl hhl hown9 hb9 hown11 (by simp) (by simp) hg11
                obtain ⟨A12, c12, rfl, _, _⟩ := own_form hown11
                clear hown11 hg11 hown9 hb9 f1 f2 hgb hr8 h3 hrr
                go_wp2
                go_roundw
                case rel => exact ⟨ag ++ y, rest', R⟩
                case measure => simp [lenOf]; omega
              · have hx' : (x != 0) = true := by simpa using hx
                go_wp2_with fail
                refine (err_any hrr).mono ?_
                rintro e w9 ⟨rfl, rfl⟩
                go_wp2_with fail
                refine (left_any hrr).mono ?_
                rintro e w9 ⟨rfl, rfl⟩
                go_wp2_with fail
                refine (left_any hrr).mono ?_
                rintro e w9 ⟨rfl, rfl⟩
                clear hv hrest'
                go_wp2_with fail
                refine (int_x hrr HV.out HD.out).mono ?_
                rintro e w8 ⟨rfl, hr8, hgb⟩
                obtain ⟨f1, f2⟩ := h3.fail hgb hgw hgl
                have hR : Rds w8 (· < w.heap.size) a1 (u8s ag) := by
                  have e : M.take ag.length = ag := by rw [← h3.eq]; simp
                  have := (hr1.below f2 (fun _ h _ => h)).take ag.length
                  rwa [← List.map_take, e] at this
                clear h3 hrr
                go_wp2_with fail
                refine (err_any hr8).mono ?_
                rintro e w9 ⟨rfl, rfl⟩
                go_wp2_with fail
                refine (same_yes _ _ _ _ _ _ ag w8 (own_rds f1) hR (by omega)).mono ?_
                rintro e w9 ⟨rfl, hd⟩
                go_wp2
                go_ret
                exact ⟨rfl, f2.trans (hd.below _)⟩

theorem vintBack_walk (a0 : Option Addr) (len0 cap0 : Nat) (z0 : List Int) (a1 : Option Addr) (len1 cap1 : Nat) (z1 : List Int) (w : World) (w0 : RowIn .i64 w a0 len0 cap0 z0) (w1 : RowIn .u8 w a1 len1 cap1 z1) :
    Calls Try.prog 5 #[.slice a0 len0 cap0, .slice a1 len1 cap1] w fun e w' => e = .returned (.bool true) ∧ Below w.heap.size w w' := by
  have l0 := w0.len
  have l1 := w1.len
  have r0 := w0.rds
  have r1 := w1.rds
  have b1 := w1.byt
  by_cases hl : 200 < len0 ∨ 500 < len1
  · refine vintBack_big a0 a1 len0 cap0 len1 cap1 w hl ?_ ?_
    · rcases w0 with ⟨_, h, _⟩ | ⟨_, _, h1, h2, _⟩ <;> omega
    · rcases w1 with ⟨_, h, _⟩ | ⟨_, _, h1, h2, _⟩ <;> omega
  · have e0 : (.slice a0 len0 cap0 : Value) = .slice a0 (z0.take len0).length cap0 := by rw [l0.1]
    have e1 : (.slice a1 len1 cap1 : Value) = .slice a1 (z1.take len1).length cap1 := by rw [l1.1]
    rw [e0, e1]
    exact vintBack_main a0 a1 cap0 cap1 _ _ w r0 r1 b1 (by rw [l0.1]; omega) (by rw [l1.1]; omega) (by rw [l1.1]; exact l1.2)

end Go.Proofs.Ytgfemdimnkeglaa
