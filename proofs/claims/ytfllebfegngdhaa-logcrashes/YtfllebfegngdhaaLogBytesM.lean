/- Layer 14: what LogBytes comes to. -/
import Derived.Test.YtfllebfegngdhaaLgAlive
import Derived.Test.YtfllebfegngdhaaFrameSame
namespace Go.Proofs.Ytfllebfegngdhaa
set_option linter.unusedVariables false
set_option linter.unusedSimpArgs false
open Go.ChangeShapes Go.WideShapes Go.ChangeAt Go.RowKit Go.Deep

/-- Behind Mend there are the frames alone. -/
theorem Lg.mnd_all {L : List Int} (hb : Byt L) : Lg.mnd L [] = (F.cat (F.all L).1, []) := by
  have h1 := F.all_back hb
  have h2 := F.all_le L
  unfold Lg.mnd
  rw [Dk.aft_nil]
  split
  · rw [h1]
  · rw [← h1, List.take_of_length_le (by omega)]
theorem Lg.all_len {L : List Int} (hb : Byt L) : (F.cat (F.all L).1).length ≤ L.length := by
  rw [← F.all_back hb, List.length_take]
  omega
/-- Slices that read as the same lists of bytes. -/
theorem BRd.same {W : World} {S T Sa Sb : Nat → Prop} {A B : Option Addr} {n c m d : Nat} {vs us : List Value} {bs : List (List Int)} (hA : Rds W Sa A vs) (hB : Rds W Sb B us) (hv : BRd W S vs bs) (hu : BRd W T us bs) (hn : n = vs.length) (hm : m = us.length) (hl : bs.length ≤ 1000000) (hs : ∀ b ∈ bs, b.length ≤ 1000000) :
    Calls Try.prog 25 #[.slice A n c, .slice B m d] W fun e w' => e = .returned (.bool true) ∧ Drew W w' := by
  have e1 : n = bs.length := hn.trans hv.1
  have e2 : m = n := by rw [hm, hu.1, e1]
  subst e2
  exact lsame_yes Sa Sb A B m c d vs us bs W hA hB hn.symm hm.symm e1.symm (by omega) hs
    (fun i v b h1 h2 => by obtain ⟨A, c, e, hr⟩ := hv.2 i v b h1 h2; exact ⟨A, c, e, hr.mono fun _ _ => trivial⟩)
    (fun i v b h1 h2 => by obtain ⟨A, c, e, hr⟩ := hu.2 i v b h1 h2; exact ⟨A, c, e, hr.mono fun _ _ => trivial⟩)
theorem F.all_cnt (l : List Int) : (F.all l).1.length ≤ l.length := by
  suffices H : ∀ k (l : List Int), l.length ≤ k → (F.all l).1.length ≤ l.length from H _ l (Nat.le_refl _)
  intro k
  induction k with
  | zero => intro l hl; rw [F.all_no (by rw [F.get_nil (by omega)]; decide)]; simp
  | succ k ih =>
    intro l hl
    by_cases h : (F.get l).1 = 0
    · rw [F.all_yes h]
      obtain ⟨e, g0, g1, _⟩ := F.get_good h
      rw [e]
      have := ih (l.drop (F.stop l + 4)) (by simp; omega)
      simp only [List.length_drop] at this
      simp only [List.length_cons]
      omega
    · rw [F.all_no h]; simp

set_option maxRecDepth 100000 in
set_option maxHeartbeats 4000000 in
theorem logbytes_main (A : Option Addr) (n c : Nat) (xs : List Int) (w : World) (hn : xs.length = n) (hr : Rds w (· < w.heap.size) A (u8s xs)) (hx : Byt xs) (hn47 : n ≤ 140737488355328) :
    Calls Try.prog 6 #[.slice A n c] w fun e w' => e = .returned (.bool true) ∧ Below w.heap.size w w' := by
  have HX := Lib.hid hx
  have HN := Lib.hid hn
  go_enter Try.func6, Try.ntmps6
  go_wp2_with fail
  refine (lgalive_any w).mono ?_
  rintro e w1 ⟨rfl, hb1⟩
  have HR1 := Lib.hid (hr.new hb1)
  clear hr hn hx
  go_wp2_with fail
  refine (pnew_any 16384 w1).mono ?_
  intro e w2 h
  unfold PNewPost at h
  rw [if_pos (by decide)] at h
  obtain ⟨g, rfl, h1, h2⟩ := h
  have hb02 := below_new hb1 h2
  have hD2 : DS w w2 g 16384 [] [] := ⟨Dk.Ok.new (by decide) (by decide), fun b => w1.heap.size ≤ b ∧ b < w2.heap.size, h1.mono fun b hb hl => ⟨hb, hl⟩, fun b hb => ⟨Nat.le_trans hb1.size hb.1, hb.2⟩, hb02⟩
  have HR2 := Lib.hid (HR1.out.new h2)
  clear h1 h2 hb1 HR1
  by_cases hbig : 10000 < n
  · have hbI : (10000 : Int) < (n : Int) := by omega
    clear hbig
    go_wp2
    go_ret
    exact ⟨rfl, hb02⟩
  · have hbI : ¬ (10000 : Int) < (n : Int) := by omega
    have e2 : Dk.apE 16384 [] [] xs = 0 ∧ Dk.apU 16384 [] [] xs = xs.map .b := by
      have := HN.out
      constructor
      · unfold Dk.apE; rw [Dk.aft_nil, if_neg (by simp; omega)]
      · unfold Dk.apU; rw [Dk.aft_nil, if_neg (by simp; omega)]; rfl
    have C2 := hD2.append (by decide) (Below.refl _ _) _ A n c xs HN.out HR2.out (fun b hb _ => .inl hb) hn47
    rw [e2.1, e2.2] at C2
    have HL : Hid ((xs.map Dk.U.b).length ≤ 800000000) := Lib.hid (by rw [List.length_map, HN.out]; omega)
    have HL2 : Hid (xs.length ≤ 10000) := Lib.hid (by rw [HN.out]; omega)
    clear hD2 e2 HR2 hb02
    go_wp2_with fail
    refine C2.mono ?_
    rintro e w3 ⟨rfl, hD3, _⟩
    have C3 := hD3.sync (by have := HL.out; omega) (Below.refl _ _)
    rw [Dk.aft_bytes, List.nil_append] at C3
    clear hD3 C2
    go_wp2_with fail
    refine C3.mono ?_
    rintro e w4 ⟨rfl, hD4, _⟩
    have HBy4 : Hid (Lg.By xs []) := Lib.hid (.new HX.out)
    have C4 := hD4.lread HBy4.out (by decide) (Below.refl _ _)
    have HM := Lib.hid (Lg.mnd_all HX.out)
    rw [Dk.aft_nil] at C4
    have HS4 : Hid (∀ b ∈ (F.all xs).1, b.length ≤ 4096) := Lib.hid (F.all_small xs)
    have HC4 : Hid ((F.all xs).1.length ≤ 1000000) := Lib.hid (by have := F.all_cnt xs; have := HL2.out; omega)
    have HY4 : Hid (Byt (F.cat (F.all xs).1)) := Lib.hid (by rw [← F.all_back HX.out]; exact HX.out.take _)
    have HZ4 : Hid ((F.cat (F.all xs).1).length ≤ xs.length) := Lib.hid (Lg.all_len HX.out)
    have C5 := Lib.hid (fun W' (hb : Below w4.heap.size w4 W') => by have := hD4.lmend HBy4.out (by decide) hb; rw [HM.out] at this; exact this)
    generalize (F.all xs).1 = bs at *
    generalize Lg.torn xs [] = t4 at *
    clear hD4 C3 HBy4 HM HL
    go_wp2_with fail
    refine C4.mono ?_
    rintro e w5 ⟨A5, N5, c5, vs5, rfl, hN5, hr5, hv5, hb5⟩
    have C6 := C5.out w5 hb5
    have HN5 := Lib.hid hN5
    clear C4 C5 hN5
    go_wp2_with fail
    refine C6.mono ?_
    rintro e w6 ⟨rfl, hD6, hK6⟩
    have HR6 : Hid (Rds w6 (fun b => w4.heap.size ≤ b) A5 vs5 ∧ BRd w6 (fun b => w4.heap.size ≤ b) vs5 bs) := Lib.hid ⟨hr5.keep fun b hb hl => hK6.block b hl (fun h => by omega), hv5.keep fun b hb hl => hK6.block b hl (fun h => by omega)⟩
    have HBy6 : Hid (Lg.By (F.cat bs) []) := Lib.hid (.new HY4.out)
    have C7 := hD6.lread HBy6.out (by decide) (Below.refl _ _)
    rw [Dk.aft_nil, F.all_of_cat HS4.out, Lg.torn_cat HS4.out] at C7
    clear C6 hr5 hv5 hb5 hK6
    go_wp2_with fail
    refine C7.mono ?_
    rintro e w7 ⟨A7, N7, c7, vs7, rfl, hN7, hr7, hv7, hb7⟩
    have C8 := hD6.read (by decide) hb7
    rw [Dk.aft_nil] at C8
    have HR7 := Lib.hid (And.intro hN7 (And.intro hr7 hv7))
    clear C7 hN7 hr7 hv7
    go_wp2_with fail
    refine C8.mono ?_
    rintro e w8 ⟨A8, c8, rfl, hR8, hb8⟩
    have hb68 := below_new hb7 hb8
    have HSm := Lib.hid (BRd.same (c := c7) (d := c5) ((HR7.out.2.1).new hb8) (HR6.out.1.new hb68) ((HR7.out.2.2).new hb8) (HR6.out.2.new hb68) HR7.out.1 HN5.out HC4.out (fun b hb => by have := HS4.out b hb; omega))
    have C9 := Lib.hid (fun W' (hb : Below w6.heap.size w6 W') => by have := hD6.lmend HBy6.out (by decide) hb; rw [Lg.mnd_cat HS4.out] at this; exact this)
    have HW8 := Lib.hid hb68
    have HR8 := Lib.hid hR8
    have HB7 := Lib.hid hb7
    clear C8 hD6 hb7 hb8 hb68 HR6 HR7 hR8
    obtain ⟨q, hq⟩ : ∃ q : Nat, (F.cat bs).length = q := ⟨_, rfl⟩
    have HQ := Lib.hid hq
    rw [hq] at HR8 ⊢
    have hqn : (q : Int) ≤ (n : Int) := by have := HZ4.out; have := HN.out; omega
    clear hq
    go_wp2_with fail
    refine HSm.out.mono ?_
    rintro e w9 ⟨rfl, nd, rfl⟩
    have HW9 := Lib.hid (below_drewN HW8.out nd)
    have C10 := C9.out _ HW9.out
    clear HSm
    go_wp2_with fail
    refine C10.mono ?_
    rintro e wa ⟨rfl, hDa, hKa⟩
    have HRa : Hid (Rds wa (fun b => w7.heap.size ≤ b) A8 (u8s (F.cat bs))) := Lib.hid ((HR8.out.rds.drewN nd).keep fun b hb hl => hKa.block b hl (fun h => by have := HB7.out.size; omega))
    have Cb := hDa.read (by decide) (Below.refl _ _)
    rw [Dk.aft_nil] at Cb
    have HBa := Lib.hid hDa.bel
    clear C10 C9 hDa hKa
    go_wp2_with fail
    refine Cb.mono ?_
    rintro e wb ⟨Ab, cb, rfl, hRb, hbb⟩
    have HSy := Lib.hid (same_yes _ _ Ab A8 cb c8 (F.cat bs) wb hRb.rds (HRa.out.new hbb) (by have := HZ4.out; have := HL2.out; omega))
    rw [HQ.out] at HSy ⊢
    have HBb := Lib.hid (below_new HBa.out hbb)
    clear Cb HRa HBa hRb hbb HR8
    go_wp2_with fail
    refine HSy.out.mono ?_
    rintro e wc ⟨rfl, ne, rfl⟩
    have HBc := Lib.hid (below_drewN HBb.out ne)
    clear HSy HBb
    go_wp2
    go_ret
    exact ⟨rfl, HBc.out⟩
end Go.Proofs.Ytfllebfegngdhaa
