/- The walk of FrameGets. -/
import Derived.Test.YtombbepgeimfmaaFrameRefAll
import Derived.Test.YtombbepgeimfmaaFrameAlive
namespace Go.Proofs.Ytombbepgeimfmaa
open Go.ChangeShapes Go.WideShapes Go.ChangeAt Go.RowKit

set_option maxHeartbeats 1000000 in
set_option maxRecDepth 100000 in
theorem frameGets_big (a : Option Addr) (len cap : Nat) (w : World) (hl : 10000 < len) (hm : len ≤ maxLen) :
    Calls Try.prog 4 #[.slice a len cap] w fun e w' => e = .returned (.bool true) ∧ Below w.heap.size w w' := by
  unfold maxLen at hm
  go_enter Try.func4, Try.ntmps4
  go_wp2_with fail
  refine (frame_alive w).mono ?_
  rintro e w1 ⟨rfl, hb⟩
  go_wp2
  go_ret
  exact ⟨rfl, hb⟩

/-! ### rows of bytes that are written over -/
def Fit (w : World) (B : Nat) (A : Option Addr) (n : Nat) : Prop := 0 < n → ∃ g cur, A = some ⟨g, 0, none⟩ ∧ B ≤ g ∧ Blo w g 5 cur ∧ ∀ j, j < n → ∃ z, cur[j]? = some (.int .u8 z)
theorem Fit.of_own {w : World} {B : Nat} {A : Option Addr} {c : Nat} {l : List Int} (h : w.ownsRow B 5 1 (.slice A l.length c) l.length (u8s l)) : Fit w B A l.length := fun hn => by
  rcases h.2 with ⟨_, h0⟩ | ⟨g, cap, cur, e, hb, hh, _, _, _, ht⟩
  · omega
  · injection e with e1 _ _
    subst e1
    refine ⟨g, cur, rfl, hb, hh, fun j hj => ⟨l[j], ?_⟩⟩
    have h1 : (cur.toList.take (l.length * 1))[j]? = (u8s l)[j]? := by rw [ht]
    rw [List.getElem?_take, if_pos (by omega), List.getElem?_map, List.getElem?_eq_getElem hj] at h1
    simpa using h1
/-- Only bytes of rows from B on have turned. -/
def Chg (B : Nat) (w wr : World) : Prop := Below B w wr ∧ (∀ A n, Fit w B A n → Fit wr B A n) ∧ ∀ b t cs, t ≠ 5 → Blo w b t cs → Blo wr b t cs
theorem Chg.refl (B : Nat) (w : World) : Chg B w w := ⟨Below.refl _ _, fun _ _ h => h, fun _ _ _ _ h => h⟩
theorem Chg.trans {B : Nat} {a b c : World} (h : Chg B a b) (k : Chg B b c) : Chg B a c := ⟨h.1.trans k.1, fun A n hf => k.2.1 A n (h.2.1 A n hf), fun b t cs ht hb => k.2.2 b t cs ht (h.2.2 b t cs ht hb)⟩
theorem Chg.set {B : Nat} {w : World} {g i : Nat} {cur : Array Value} (hB : B ≤ g) (h : Blo w g 5 cur) (y : Int) : Chg B w (w.setCell ⟨g, i, none⟩ (.int .u8 y)) := by
  refine ⟨(Below.refl _ _).setCell (p := ⟨g, i, none⟩) hB _, fun A n hf hn => ?_, fun b t cs ht hb => ?_⟩
  · obtain ⟨g', cur', rfl, hb', hh', hz⟩ := hf hn
    by_cases e : g' = g
    · subst e
      refine ⟨g', _, rfl, hb', hh'.put i (.int .u8 y), fun j hj => ?_⟩
      rw [Array.getElem?_setIfInBounds]
      by_cases hij : i = j
      · subst hij
        rw [if_pos rfl]
        obtain ⟨z, hz1⟩ := hz i hj
        have : i < cur'.size := by
          rcases Nat.lt_or_ge i cur'.size with h3 | h3
          · exact h3
          · rw [Array.getElem?_eq_none h3] at hz1; cases hz1
        exact ⟨y, by rw [if_pos this]⟩
      · rw [if_neg hij]; exact hz j hj
    · exact ⟨g', cur', rfl, hb', hh'.other (p := ⟨g, i, none⟩) e _, hz⟩
  · exact hb.other (p := ⟨g, i, none⟩) (hb.typeNe h ht) _
theorem Fit.at {w : World} {B : Nat} {A : Option Addr} {n i : Nat} (h : Fit w B A n) (hi : i < n) :
    ∃ g z, A = some ⟨g, 0, none⟩ ∧ w.cell? ⟨g, i, none⟩ = some (.int .u8 z) ∧ w.frozen? ⟨g, i, none⟩ = false ∧ ∀ y : Int, Chg B w (w.setCell ⟨g, i, none⟩ (.int .u8 y)) := by
  obtain ⟨g, cur, rfl, hb, hh, hz⟩ := h (by omega)
  obtain ⟨z, hz1⟩ := hz i hi
  exact ⟨g, z, rfl, (hh.cell i).trans hz1, hh.frozen i, fun y => Chg.set hb hh y⟩
theorem Chg.own {B : Nat} {w wr : World} (h : Chg B w wr) {b : Nat} {v : Value} {n : Nat} {xs : List Value} (ho : w.ownsRow b 22 1 v n xs) : wr.ownsRow b 22 1 v n xs := by
  obtain ⟨h1, h2⟩ := ho
  refine ⟨h1, ?_⟩
  rcases h2 with h2 | ⟨g, cap, cur, e, hg, hh, r⟩
  · exact .inl h2
  · exact .inr ⟨g, cap, cur, e, hg, h.2.2 g _ cur (by decide) hh, r⟩
theorem Drew.fit {w w' : World} (h : Drew w w') {B : Nat} {A : Option Addr} {n : Nat} (k : Fit w B A n) : Fit w' B A n := by obtain ⟨n, rfl⟩ := h; exact k

/-! ### what Get answers, whether there is a frame or none -/
def F.bodyU (l : List Int) : List Int := if (F.get l).1 = 0 then F.body l else []
def F.restU (l : List Int) : List Int := if (F.get l).1 = 0 then F.rest l else []
theorem F.u_len (l : List Int) : (F.bodyU l).length ≤ l.length ∧ (F.restU l).length ≤ l.length := by
  unfold F.bodyU F.restU
  split
  · constructor
    · unfold F.body; simp; omega
    · unfold F.rest; simp
  · simp
theorem GetP.u {l : List Int} {w w' : World} {e : Ending} (h : GetP l w e w') :
    ∃ A1 c1 A2 c2, e = .returned (.tuple #[.slice A1 (F.bodyU l).length c1, .slice A2 (F.restU l).length c2, .int .i64 (F.get l).1]) ∧
      w'.ownsRow w.heap.size 5 1 (.slice A1 (F.bodyU l).length c1) (F.bodyU l).length (u8s (F.bodyU l)) ∧ w'.ownsRow w.heap.size 5 1 (.slice A2 (F.restU l).length c2) (F.restU l).length (u8s (F.restU l)) ∧ Below w.heap.size w w' := by
  unfold F.bodyU F.restU
  rcases h with ⟨⟨h0, v1, v2, rfl, ⟨A1, c1, rfl, h1⟩, A2, c2, rfl, h2⟩ | ⟨h0, rfl⟩, hB⟩
  · rw [if_pos h0, if_pos h0, h0]
    exact ⟨A1, c1, A2, c2, rfl, h1, h2, hB⟩
  · rw [if_neg h0, if_neg h0]
    exact ⟨none, 0, none, 0, rfl, World.ownsRow_nil _ _ _ _, World.ownsRow_nil _ _ _ _, hB⟩
theorem RGetP.u {l : List Int} {w w' : World} {e : Ending} (h : RGetP l w e w') :
    ∃ A1 c1 A2 c2, e = .returned (.tuple #[.slice A1 (F.bodyU l).length c1, .slice A2 (F.restU l).length c2, .int .i64 (F.get l).1]) ∧
      Rds w' (fun _ => True) A1 (u8s (F.bodyU l)) ∧ Rds w' (fun _ => True) A2 (u8s (F.restU l)) ∧ Below w.heap.size w w' := by
  unfold F.bodyU F.restU
  rcases h with ⟨⟨h0, v1, v2, rfl, h1, h2⟩ | ⟨h0, rfl⟩, hB⟩
  · rw [if_pos h0, if_pos h0, h0]
    obtain ⟨A1, c1, rfl, _, r1⟩ := h1.rds
    obtain ⟨A2, c2, rfl, _, r2⟩ := h2.rds
    exact ⟨A1, c1, A2, c2, rfl, r1, r2, hB⟩
  · rw [if_neg h0, if_neg h0]
    exact ⟨none, 0, none, 0, rfl, Rds.nil, Rds.nil, hB⟩

theorem F.all_len (l : List Int) : (F.all l).1.length ≤ l.length := by
  suffices H : ∀ k (l : List Int), l.length ≤ k → (F.all l).1.length ≤ l.length from H _ l (Nat.le_refl _)
  intro k
  induction k with
  | zero =>
    intro l hl
    rw [F.all_no (by rw [F.get_nil (by omega)]; decide)]
    simp
  | succ k ih =>
    intro l hl
    by_cases h : (F.get l).1 = 0
    · obtain ⟨e, g0, g1, _⟩ := F.get_good h
      have := ih (l.drop ((F.get l).2.2 + 4)) (by simp; omega)
      rw [F.all_yes h]
      simp at this ⊢
      omega
    · rw [F.all_no h]; simp

set_option maxHeartbeats 4000000 in
set_option maxRecDepth 100000 in
theorem frameGets_yes (a : Option Addr) (cap : Nat) (b : List Int) (w : World) (hr : Rds w (· < w.heap.size) a (u8s b)) (hc : b.length ≤ cap) (hl : b.length ≤ 10000) (hb : Byt b) :
    Calls Try.prog 4 #[.slice a b.length cap] w fun e w' => e = .returned (.bool true) ∧ Below w.heap.size w w' := by
  obtain ⟨hu1, hu2⟩ := F.u_len b
  have hal := F.all_len b
  have has := F.all_small b
  go_enter Try.func4, Try.ntmps4
  go_wp2_with fail
  refine (frame_alive w).mono ?_
  rintro e w1 ⟨rfl, hb1⟩
  have hr1 := hr.new hb1
  go_wp2_with fail
  refine (lent_any _ a cap b w1 hr1 (by omega)).mono ?_
  rintro e w2 ⟨g, rfl, hg, hbl, hb2⟩
  have hr2 := hr1.new hb2
  have hB2 := below_new hb1 hb2
  clear hr hr1 hb1 hb2
  have hin := lent_rds hbl
  go_wp2_with fail
  refine (get_any _ _ _ _ b w2 rfl hin (by omega) (by omega) hb).mono ?_
  intro e w3 h3
  obtain ⟨A1, c1, A2, c2, rfl, ho1, ho2, hb3⟩ := h3.u
  have hr3 := hr2.new hb3
  have hbl3 := hbl.new hb3
  clear h3 hin
  go_wp2_with fail
  refine (rget_any _ a _ cap b w3 rfl hr3 hc (by omega) hb).mono ?_
  intro e w4 h4
  obtain ⟨A3, c3, A4, c4, rfl, ro3, ro4, hb4⟩ := h4.u
  have hr4 := hr3.new hb4
  have hbl4 := hbl3.new hb4
  have ho14 := own_keep ho1 fun k _ hk => hb4.block k hk
  have ho24 := own_keep ho2 fun k _ hk => hb4.block k hk
  have hb24 := below_new hb3 hb4
  have hin := lent_rds hbl4
  clear h4 hr3 hbl3 ho1 ho2 hb3 hb4
  go_wp2_with fail
  refine (all_any _ _ _ _ b w4 rfl hin (by omega) (by omega) hb).mono ?_
  rintro e w5 ⟨A5, c5, vs, rfl, ho5, hrw5, hb5⟩
  have hr5 := hr4.new hb5
  have hbl5 := hbl4.new hb5
  have ho15 := own_keep ho14 fun k _ hk => hb5.block k hk
  have ho25 := own_keep ho24 fun k _ hk => hb5.block k hk
  have ro35 := ro3.new hb5
  have ro45 := ro4.new hb5
  have ho5' := own_mono ho5 hb24.size
  have hrw5' := hrw5.mono hb24.size
  have hb25 := below_new hb24 hb5
  clear hin hr4 hbl4 ho14 ho24 ro3 ro4 ho5 hrw5 hb5 hb24
  go_wp2_with fail
  refine (rall_any _ a _ cap b w5 rfl hr5 hc (by omega) hb).mono ?_
  rintro e w6 ⟨A6, c6, us, rfl, ho6, hrw6, hb6⟩
  have hr6 := hr5.new hb6
  have hbl6 := hbl5.new hb6
  have ho16 := own_keep ho15 fun k _ hk => hb6.block k hk
  have ho26 := own_keep ho25 fun k _ hk => hb6.block k hk
  have ro36 := ro35.new hb6
  have ro46 := ro45.new hb6
  have ho56 := own_keep ho5' fun k _ hk => hb6.block k hk
  have hrw56 := hrw5'.new hb6
  have hb26 := below_new hb25 hb6
  have hul : us.length = vs.length := by rw [hrw6.1, hrw56.1]
  have hvl : vs.length ≤ 10000 := by rw [hrw56.1]; omega
  have ho6' := own_rds ho6
  rw [hul] at ho6' ⊢
  have HUL := Lib.hid hul
  clear hr5 hbl5 ho15 ho25 ro35 ro45 ho5' hrw5' hb6 hb25 hul ho6
  go_wp2_with fail
  refine (same_yes _ _ A1 A3 c1 c3 (F.bodyU b) w6 (own_rds ho16) ro36 (by omega)).mono ?_
  rintro e w7 ⟨rfl, hd7⟩
  go_wp2_with fail
  refine (same_yes _ _ A2 A4 c2 c4 (F.restU b) w7 (hd7.rds (own_rds ho26)) (hd7.rds ro46) (by omega)).mono ?_
  rintro e w8 ⟨rfl, hd8⟩
  have hd68 := hd7.trans hd8
  have hN : ∀ W : World, Drew w6 W → Below w6.heap.size w6 W := fun W h => h.below _
  have hrw8 := hrw56.new (hN _ hd68)
  have hrw68 := hrw6.new (hN _ hd68)
  have hLS := lsame_yes _ _ A5 A6 vs.length c5 c6 vs us (F.all b).1 w8 (hd68.rds (own_rds ho56)) (hd68.rds ho6') rfl HUL.out hrw56.1.symm (by omega) (fun x hx => by have := has x hx; omega)
    (fun i v x hv hx => by obtain ⟨A, c, e, h⟩ := hrw8.2 i v x hv hx; exact ⟨A, c, e, (own_rds h).mono fun _ _ => trivial⟩)
    (fun i v x hv hx => by obtain ⟨A, c, e, _, h⟩ := (hrw68.2 i v x hv hx).rds; exact ⟨A, c, e, h⟩)
  clear hd7 hd8 hrw8 hrw68 ro36 ro46 ho6'
  go_wp2_with fail
  refine hLS.mono ?_
  rintro e w9 ⟨rfl, hd9⟩
  have hd := hd68.trans hd9
  have hr9 := hd.rds hr6
  have hbl9 := hd.blo hbl6
  have F1 := hd.fit (Fit.of_own ho16)
  have F2 := hd.fit (Fit.of_own ho26)
  have ho59 := hd.own ho56
  have FV : ∀ (i : Nat) v, vs[i]? = some v → ∃ A n c, v = .slice A n c ∧ n ≤ 4096 ∧ Fit w9 w2.heap.size A n := fun i v hv => by
    have hi : i < vs.length := by
      rcases Nat.lt_or_ge i vs.length with h | h
      · exact h
      · rw [List.getElem?_eq_none h] at hv; cases hv
    have hi' : i < (F.all b).1.length := by rw [← hrw56.1]; exact hi
    obtain ⟨A, c, e, h⟩ := hrw56.2 i v _ hv (List.getElem?_eq_getElem hi')
    exact ⟨A, _, c, e, has _ (List.getElem_mem hi'), hd.fit (Fit.of_own h)⟩
  have hb29 : Below w2.heap.size w2 w9 := below_new hb26 (hN _ hd)
  have hB9 := below_new hB2 hb29
  have hgl := hbl.lt
  have hs2 := hB2.size
  have HFV := Lib.hid FV
  clear hd hd68 hd9 hLS hr6 hbl6 ho16 ho26 ho56 FV hrw56 hrw6 has hN hb26 hB2 hbl hr2
  go_wp2_with fail
  go_loopw [76] (fun iv wr => ∃ i : Nat, iv = .int .i64 i ∧ i ≤ (F.bodyU b).length ∧ Chg w2.heap.size w9 wr) (fun iv _ => (F.bodyU b).length - (intOf iv).toNat)
  case atStart => exact ⟨0, rfl, Nat.zero_le _, Chg.refl _ _⟩
  case round =>
    obtain ⟨i, rfl, hi, hC⟩ := hrel
    by_cases hlt : i < (F.bodyU b).length
    · obtain ⟨gx, z, rfl, cz, fz, hS⟩ := (hC.2.1 _ _ F1).at hlt
      have HS := Lib.hid fun y => hC.trans (hS y)
      clear hS hC
      go_wp2
      go_roundw
      case rel => exact ⟨i + 1, by go_num, by omega, HS.out _⟩
      case measure => simp [intOf]; omega
    · go_wp2_with fail
      clear hlt hi
      go_loopw [90] (fun iv wr => ∃ i : Nat, iv = .int .i64 i ∧ i ≤ (F.restU b).length ∧ Chg w2.heap.size w9 wr) (fun iv _ => (F.restU b).length - (intOf iv).toNat)
      case atStart => exact ⟨0, rfl, Nat.zero_le _, hC⟩
      case round =>
        clear hC
        obtain ⟨i, rfl, hi, hC⟩ := hrel
        by_cases hlt : i < (F.restU b).length
        · obtain ⟨gx, z, rfl, cz, fz, hS⟩ := (hC.2.1 _ _ F2).at hlt
          have HS := Lib.hid fun y => hC.trans (hS y)
          clear hS hC
          go_wp2
          go_roundw
          case rel => exact ⟨i + 1, by go_num, by omega, HS.out _⟩
          case measure => simp [intOf]; omega
        · go_wp2_with fail
          clear hlt hi
          go_loopw [104] (fun iv wr => ∃ i : Nat, iv = .int .i64 i ∧ i ≤ vs.length ∧ Chg w2.heap.size w9 wr) (fun iv _ => vs.length - (intOf iv).toNat)
          case atStart => exact ⟨0, rfl, Nat.zero_le _, hC⟩
          case round =>
            clear hC
            obtain ⟨i, rfl, hi, hC⟩ := hrel
            by_cases hlt : i < vs.length
            · obtain ⟨ad, rfl, _, hce⟩ := (own_rds (hC.own ho59)).at hlt
              obtain ⟨Ai, ni, ci, hvi, hni, Fi⟩ := HFV.out i vs[i] (List.getElem?_eq_getElem hlt)
              rw [hvi] at hce
              clear hvi
              go_wp2_with fail
              clear hce
              go_loopw [110] (fun iv wr => ∃ j : Nat, iv = .int .i64 j ∧ j ≤ ni ∧ Chg w2.heap.size w9 wr) (fun iv _ => ni - (intOf iv).toNat)
              case atStart => exact ⟨0, rfl, Nat.zero_le _, hC⟩
              case round =>
                clear hC
                obtain ⟨j, rfl, hj, hC⟩ := hrel
                by_cases hjl : j < ni
                · obtain ⟨gx, z, rfl, cz, fz, hS⟩ := (hC.2.1 _ _ Fi).at hjl
                  have HS := Lib.hid fun y => hC.trans (hS y)
                  clear hS hC
                  go_wp2
                  go_roundw
                  case rel => exact ⟨j + 1, by go_num, by omega, HS.out _⟩
                  case measure => simp [intOf]; omega
                · go_wp2
                  go_roundw
                  case rel => exact ⟨i + 1, by go_num, by omega, hC⟩
                  case measure => simp [intOf]; omega
            · have hbel := hC.1
              have hrA := hr9.below hbel fun k hk _ => by omega
              have hblA := hbl9.below hbel hgl
              have hBA : Below w.heap.size w wr := hB9.trans (hbel.mono hs2)
              go_wp2_with fail
              refine (kept_yes _ a cap g b wr hblA hrA (by omega)).mono ?_
              rintro e wB ⟨rfl, hd⟩
              go_wp2
              go_ret
              exact ⟨rfl, hBA.trans (hd.below _)⟩

theorem frameGets_walk (a : Option Addr) (len cap : Nat) (zs : List Int) (w : World) (h : RowIn .u8 w a len cap zs) :
    Calls Try.prog 4 #[.slice a len cap] w fun e w' => e = .returned (.bool true) ∧ Below w.heap.size w w' := by
  have hlen := h.len
  by_cases hl : 10000 < len
  · exact frameGets_big a len cap w hl h.max
  · have hr := h.rds
    have hb := h.byt
    have e : (.slice a len cap : Value) = .slice a (zs.take len).length cap := by rw [hlen.1]
    rw [e]
    exact frameGets_yes a cap _ w hr (by rw [hlen.1]; exact hlen.2) (by rw [hlen.1]; omega) hb
end Go.Proofs.Ytombbepgeimfmaa
