/- The walk of CrcTurns. -/
import Derived.Test.YtnibgcgmachhiaaCrcArgs
import Derived.BigQuiet
import Derived.BigRegion
namespace Go.Proofs.Ytnibgcgmachhiaa
open Go.ChangeShapes Go.WideShapes Go.ChangeAt Go.RowKit

set_option maxHeartbeats 400000 in
theorem crcTurns_out (a : Option Addr) (len cap : Nat) (t : Int) (w : World) (hl : len = 0 ∨ 2000 < len) (hm : len ≤ maxLen) :
    Calls Try.prog 5 #[.slice a len cap, .int .u16 t] w fun e w' => e = .returned (.bool true) ∧ Below w.heap.size w w' := by
  unfold maxLen at hm
  have HL := Lib.hid hl
  clear hl
  go_enter Try.func5, Try.ntmps5
  go_wp2_with fail
  refine (crc_alive w).mono ?_
  rintro e w1 ⟨rfl, hb⟩
  by_cases h1 : len = 0
  · subst h1
    go_wp2
    go_ret
    exact ⟨rfl, hb⟩
  · have h2 : 2000 < len := HL.out.resolve_left h1
    go_wp2
    go_ret
    exact ⟨rfl, hb⟩

theorem C.turned {l : List Nat} {i x : Nat} (hb : Small l) (hi : i < l.length) (hx : x < 256) (hne : x ≠ l[i]) : C.more 0 (l.set i x) ≠ C.more 0 l := by
  have e1 : l.set i x = l.take i ++ x :: l.drop (i + 1) := List.set_eq_take_append_cons_drop.trans (by rw [if_pos hi])
  have e2 : l = l.take i ++ l[i] :: l.drop (i + 1) := by rw [← List.drop_eq_getElem_cons hi, List.take_append_drop]
  rw [e1]
  intro h
  have h' := h.trans (congrArg (C.more 0) e2)
  exact C.turn_one (by omega) (fun c hc => hb c (List.mem_of_mem_take hc)) (fun c hc => hb c (List.mem_of_mem_drop hc)) hx (hb.at hi) hne h'
theorem C.swapped {l : List Nat} {i : Nat} (hb : Small l) (hi : i + 1 < l.length) (hne : l[i] ≠ l[i + 1]) : C.more 0 ((l.set i l[i + 1]).set (i + 1) l[i]) ≠ C.more 0 l := by
  have e2 : l = l.take i ++ l[i] :: l[i + 1] :: l.drop (i + 1 + 1) := by rw [← List.drop_eq_getElem_cons hi, ← List.drop_eq_getElem_cons (by omega), List.take_append_drop]
  have e1 : (l.set i l[i + 1]).set (i + 1) l[i] = l.take i ++ l[i + 1] :: l[i] :: l.drop (i + 1 + 1) := by
    apply List.ext_getElem?
    intro j
    rw [List.getElem?_set, List.getElem?_set]
    rcases Nat.lt_trichotomy j i with h | h | h
    · rw [List.getElem?_append_left (by simp; omega), List.getElem?_take, if_neg (by omega), if_neg (by omega), if_pos h]
    · subst h
      rw [List.getElem?_append_right (by simp; omega)]
      simp [Nat.min_eq_left (show j ≤ l.length by omega)]
      omega
    · by_cases h2 : j = i + 1
      · subst h2
        rw [List.getElem?_append_right (by simp; omega)]
        simp [Nat.min_eq_left (show i ≤ l.length by omega), hi]
      · rw [List.getElem?_append_right (by simp; omega), if_neg (by omega), if_neg (by omega)]
        have e : j - (l.take i).length = (j - (i + 2)) + 1 + 1 := by simp; omega
        rw [e, List.getElem?_cons_succ, List.getElem?_cons_succ, List.getElem?_drop]
        congr 1
        omega
  rw [e1]
  intro h
  have h' := h.trans (congrArg (C.more 0) e2)
  exact C.turn_two (by omega) (fun c hc => hb c (List.mem_of_mem_take hc)) (fun c hc => hb c (List.mem_of_mem_drop hc)) (hb.at hi) (hb.at (by omega)) (Ne.symm hne) h'
theorem small_set {l : List Nat} {i x : Nat} (hb : Small l) (hx : x < 256) : Small (l.set i x) := by
  intro c hc
  rcases List.mem_or_eq_of_mem_set hc with h | h
  · exact hb c h
  · omega

theorem own_some {w : World} {base : Nat} {t : TypeId} {v : Value} {n : Nat} {xs : List Value} (h : w.ownsRow base t 1 v n xs) (hn : 0 < n) : ∃ g c, v = .slice (some ⟨g, 0, none⟩) n c := by
  rcases h.2 with ⟨_, h0⟩ | ⟨g, cap, _, hv, _⟩
  · omega
  · exact ⟨g, cap, hv⟩
theorem own_at {w : World} {base g n c i : Nat} {t : TypeId} {l : List Nat} (h : w.ownsRow base t 1 (.slice (some ⟨g, 0, none⟩) n c) n (nby l)) (hi : i < l.length) : w.cell? ⟨g, i, none⟩ = some (.int .u8 ((l[i] : Nat) : Int)) := by
  have h1 := h.cells (g := g) rfl i (.int .u8 ((l[i] : Nat) : Int)) (by simp [hi])
  simpa [M.addMk] using h1

set_option maxHeartbeats 1000000 in
theorem crcTurns_yes (a : Option Addr) (cap : Nat) (l : List Nat) (t : Nat) (w : World) (h0 : 0 < l.length) (hl : l.length ≤ 2000) (hr : Rds w (· < w.heap.size) a (nby l)) (hb : Small l) (ht : t < 65536) :
    Calls Try.prog 5 #[.slice a l.length cap, .int .u16 (t : Int)] w fun e w' => e = .returned (.bool true) ∧ Below w.heap.size w w' := by
  obtain ⟨i0, hi, hz0, hz1, hz2⟩ := info_parts Try.rowU8
  obtain ⟨i, hi0, hiL⟩ : ∃ i : Nat, ((t : Int) / 8 % (l.length : Int)) = (i : Int) ∧ i < l.length := ⟨t / 8 % l.length, by simp, Nat.mod_lt _ h0⟩
  have hne0 : ((l.length : Int) == 0) = false := by simp; intro h; rw [h] at h0; simp at h0
  go_enter Try.func5, Try.ntmps5
  go_wp2_with fail
  refine (crc_alive w).mono ?_
  rintro e w1 ⟨rfl, hB⟩
  have hra := hr.new hB
  clear hr
  have hown1 : (w1.alloc (.cells #[] 5)).ownsRow w1.heap.size 5 1 (.slice (some ⟨w1.heap.size, 0, none⟩) 0 0) 0 [] := World.ownsRow_lit w1 #[] 0 (Nat.le_refl _) (by unfold maxLen; omega) rfl
  have hg1 : w1.grownBy (w1.alloc (.cells #[] 5)) none := World.grownBy_alloc _ _ _
  have hB1 := below_new hB (below_gb hg1)
  have hra1 := hra.new (below_gb hg1)
  have hs1 := hg1.size
  have hs0 := hB.size
  go_wp2_with (at_builtin; refine wpList_app _ rfl _ _ 22 rfl w1.heap.size 5 i0 (.int .u8 0) 1 Try.underlying22 hi hz0 hz1 hz2 rfl _ _ _ rfl hown1 _ a l.length cap (nby l) rfl (by simp) hra1 (one_byt _) (by unfold maxLen; omega) (by omega) hs1 ?_)
  intro v2 w2 hown2 hg2 _
  have hB2 : Below w.heap.size w w2 := hB1.grown hg2 (by omega) fun k hk => by simp [Value.ownBlock] at hk; omega
  have hra2 := hra1.grown hg2 (fun k hk _ e => by simp [Value.ownBlock] at e; omega)
  have hs2 := hg2.size
  clear hg2 hown1 hra1 hg1 hra hB hB1
  obtain ⟨g, c2, rfl⟩ := own_some hown2 (by omega)
  have cI := own_at (i := i) (by simpa using hown2) hiL
  have fI := hown2.frozenAt i
  have hd : 2 ^ (t % 8) < 256 := by
    have : t % 8 < 8 := Nat.mod_lt _ (by omega)
    exact Nat.lt_of_lt_of_le (Nat.pow_lt_pow_right (by omega) this) (by decide)
  have hx8 : l[i] ^^^ 2 ^ (t % 8) < 256 := Nat.xor_lt_two_pow (n := 8) (hb.at hiL) hd
  have hxe : bits .xor .u8 ((l[i] : Nat) : Int) (2 ^ (t % 8) % 256) = ((l[i] ^^^ 2 ^ (t % 8) : Nat) : Int) := by
    have e : ((2 : Int) ^ (t % 8) % 256) = ((2 ^ (t % 8) : Nat) : Int) := by
      rw [Int.natCast_pow]
      have : ((2 ^ (t % 8) : Nat) : Int) < 256 := by omega
      rw [Int.natCast_pow] at this
      exact Int.emod_eq_of_lt (Int.pow_nonneg (by omega)) this
    rw [e]
    exact u8_xor_nat _ _ (hb.at hiL) hd
  have hxn : l[i] ^^^ 2 ^ (t % 8) ≠ l[i] := by
    intro h
    have h1 : l[i] ^^^ 2 ^ (t % 8) = l[i] ^^^ 0 := by rw [h, Nat.xor_zero]
    have h2 := C.xor_cancel' h1
    have := Nat.two_pow_pos (t % 8)
    omega
  clear hd
  obtain ⟨x, hxx⟩ : ∃ x, l[i] ^^^ 2 ^ (t % 8) = x := ⟨_, rfl⟩
  rw [hxx] at hx8 hxe hxn
  clear hxx
  have hown3 : (w2.setCell ⟨g, i, none⟩ (.int .u8 (x : Int))).ownsRow w1.heap.size 5 1 (.slice (some ⟨g, 0, none⟩) l.length c2) l.length (nby (l.set i x)) := by
    have := (hown2.stored i (.int .u8 (x : Int))).1
    rwa [show nby (l.set i x) = (nby l).set i (.int .u8 (x : Int)) by simp [nby, List.map_set]]
  have hg3 := (hown2.stored i (.int .u8 (x : Int))).2
  have hgl := hown2.lt g rfl
  have hB3 := hB2.grown hg3 (by omega) fun k hk => by injection hk with hk; omega
  have hra3 := hra2.grown hg3 (fun k hk _ e => by injection e with e; omega)
  have hs3 := hg3.size
  obtain ⟨w3, hw3⟩ : ∃ w3, w2.setCell ⟨g, i, none⟩ (.int .u8 (x : Int)) = w3 := ⟨_, rfl⟩
  rw [hw3] at hown3 hg3 hB3 hra3 hs3
  obtain ⟨m1, hm1⟩ : ∃ m, m = C.more 0 (l.set i x) := ⟨_, rfl⟩
  obtain ⟨m2, hm2⟩ : ∃ m, m = C.more 0 l := ⟨_, rfl⟩
  have hT : ((m1 : Int) == (m2 : Int)) = false := by
    simp only [beq_eq_false_iff_ne]
    intro h
    have h : m1 = m2 := by omega
    rw [hm1, hm2] at h
    exact C.turned hb hiL hx8 hxn h
  have HM1 := Lib.hid hm1
  have HM2 := Lib.hid hm2
  clear hm1 hm2 hown2 hra2 hB2 hg3 hxn
  go_wp2_with fail
  refine (sum_at _ _ _ _ (l.set i x) w3 (by simp) (own_rds hown3) (by simp; omega) (small_set hb hx8)).mono ?_
  rintro e w' ⟨rfl, rfl⟩
  rw [← HM1.out]
  clear hw3 hown3 cI fI
  go_wp2_with fail
  refine (sum_at _ _ _ _ l w3 rfl hra3 (by omega) hb).mono ?_
  rintro e w' ⟨rfl, rfl⟩
  rw [← HM2.out]
  have hown4 : (w3.alloc (.cells #[] 5)).ownsRow w3.heap.size 5 1 (.slice (some ⟨w3.heap.size, 0, none⟩) 0 0) 0 [] := World.ownsRow_lit w3 #[] 0 (Nat.le_refl _) (by unfold maxLen; omega) rfl
  have hg4 : w3.grownBy (w3.alloc (.cells #[] 5)) none := World.grownBy_alloc _ _ _
  have hB4 := hB3.alloc (show w.heap.size ≤ w3.heap.size by omega) (.cells #[] 5)
  have hra4 := hra3.new (below_gb hg4)
  have hs4 := hg4.size
  go_wp2_with (at_builtin; refine wpList_app _ rfl _ _ 22 rfl w3.heap.size 5 i0 (.int .u8 0) 1 Try.underlying22 hi hz0 hz1 hz2 rfl _ _ _ rfl hown4 _ a l.length cap (nby l) rfl (by simp) hra4 (one_byt _) (by unfold maxLen; omega) (by omega) hs4 ?_)
  intro v5 w5 hown5 hg5 _
  have hB5 : Below w.heap.size w w5 := hB4.grown hg5 (by omega) fun k hk => by simp [Value.ownBlock] at hk; omega
  have hra5 := hra4.grown hg5 (fun k hk _ e => by simp [Value.ownBlock] at e; omega)
  have hs5 := hg5.size
  clear hg5 hown4 hra4 hg4 hB4 hra3 hB3
  obtain ⟨g5, c5, rfl⟩ := own_some hown5 (by omega)
  have hgl5 := hown5.lt g5 rfl
  have cI := own_at (i := i) (by simpa using hown5) hiL
  have fI := hown5.frozenAt i
  have hwr : IntKind.i64.wrap ((i : Int) + 1) = (i : Int) + 1 := IntWalk.i64_in _ (by omega)
  by_cases hn : i + 1 < l.length
  · have cJ := own_at (i := i + 1) (by simpa using hown5) hn
    have fJ := hown5.frozenAt (i + 1)
    have hgd : decide ((i : Int) + 1 < (l.length : Int)) = true := by simp; omega
    have htn : ((i : Int) + 1).toNat = i + 1 := by omega
    by_cases hq : l[i] = l[i + 1]
    · have hq1 : (((l[i] : Nat) : Int) != ((l[i + 1] : Nat) : Int)) = false := by simp [hq]
      clear hq
      go_wp2
      go_quiet (fail)
      go_wp2
      go_ret
      exact ⟨rfl, below_drewN hB5 _⟩
    · have hq1 : (((l[i] : Nat) : Int) != ((l[i + 1] : Nat) : Int)) = true := by simp; omega
      obtain ⟨m3, hm3⟩ : ∃ m, m = C.more 0 ((l.set i l[i + 1]).set (i + 1) l[i]) := ⟨_, rfl⟩
      have hT3 : ((m3 : Int) != (m2 : Int)) = true := by
        simp only [bne_iff_ne, ne_eq]
        intro h
        have h : m3 = m2 := by omega
        rw [hm3, HM2.out] at h
        exact C.swapped hb hn hq h
      have HM3 := Lib.hid hm3
      clear hm3 hq
      go_wp2
      go_quiet (fail)
      obtain ⟨w6, hd6, hw6⟩ : ∃ W, Drew w5 W ∧ w5.drewN nq = W := ⟨_, ⟨_, rfl⟩, rfl⟩
      rw [hw6]
      clear hw6
      have hown6 := hd6.own hown5
      have hra6 := hd6.rds hra5
      have hB6 := hB5.trans (hd6.below _)
      clear hd6 hown5 hra5 hB5 cI cJ fI fJ hwr
      have cI := own_at (i := i) (by simpa using hown6) hiL
      have fI := hown6.frozenAt i
      have cJ := own_at (i := i + 1) (by simpa using hown6) hn
      have fJ := hown6.frozenAt (i + 1)
      have S1 := hown6.stored i (.int .u8 ((l[i + 1] : Nat) : Int))
      have S2 := S1.1.stored (i + 1) (.int .u8 ((l[i] : Nat) : Int))
      have G : w6.grownBy ((w6.setCell ⟨g5, i, none⟩ (.int .u8 ((l[i + 1] : Nat) : Int))).setCell ⟨g5, i + 1, none⟩ (.int .u8 ((l[i] : Nat) : Int))) (some g5) := gb_trans S1.2 S2.2
      have hB7 := hB6.grown G (by have := hown6.lt g5 rfl; omega) fun k hk => by injection hk with hk; omega
      have hra7 := hra6.grown G (fun k hk _ e => by injection e with e; omega)
      have hown7 : ((w6.setCell ⟨g5, i, none⟩ (.int .u8 ((l[i + 1] : Nat) : Int))).setCell ⟨g5, i + 1, none⟩ (.int .u8 ((l[i] : Nat) : Int))).ownsRow w3.heap.size 5 1 (.slice (some ⟨g5, 0, none⟩) l.length c5) l.length (nby ((l.set i l[i + 1]).set (i + 1) l[i])) := by
        have := S2.1
        rwa [show nby ((l.set i l[i + 1]).set (i + 1) l[i]) = ((nby l).set i (.int .u8 ((l[i + 1] : Nat) : Int))).set (i + 1) (.int .u8 ((l[i] : Nat) : Int)) by simp [nby, List.map_set]]
      clear S1 S2 G hown6 hra6 hB6
      obtain ⟨w7, hw7⟩ : ∃ W, ((w6.setCell ⟨g5, i, none⟩ (.int .u8 ((l[i + 1] : Nat) : Int))).setCell ⟨g5, i + 1, none⟩ (.int .u8 ((l[i] : Nat) : Int))).drew = W := ⟨_, rfl⟩
      have hd7 : Drew ((w6.setCell ⟨g5, i, none⟩ (.int .u8 ((l[i + 1] : Nat) : Int))).setCell ⟨g5, i + 1, none⟩ (.int .u8 ((l[i] : Nat) : Int))) w7 := ⟨1, by rw [← hw7]; rfl⟩
      have hB8 := hB7.trans (hd7.below _)
      have hra8 := hd7.rds hra7
      have hown8 := hd7.own hown7
      clear hd7 hB7 hra7 hown7
      have HW7 := Lib.hid hw7
      clear hw7
      go_wp2
      go_region
      go_wp2_with fail
      rw [HW7.out]
      refine (sum_at _ _ _ _ ((l.set i l[i + 1]).set (i + 1) l[i]) w7 (by simp) (own_rds hown8) (by simp; omega) (small_set (small_set hb (hb.at hn)) (hb.at hiL))).mono ?_
      rintro e w' ⟨rfl, rfl⟩
      rw [← HM3.out]
      clear cI cJ fI fJ HW7
      go_wp2_with fail
      refine (sum_at _ _ _ _ l w7 rfl hra8 (by omega) hb).mono ?_
      rintro e w' ⟨rfl, rfl⟩
      rw [← HM2.out]
      go_wp2
      go_ret
      exact ⟨rfl, hB8⟩
  · have hgd : decide ((i : Int) + 1 < (l.length : Int)) = false := by simp; omega
    go_wp2
    go_quiet (fail)
    go_wp2
    go_ret
    exact ⟨rfl, below_drewN hB5 _⟩

theorem crcTurns_walk (a : Option Addr) (len cap : Nat) (zs : List Int) (t : Int) (w : World) (h : RowIn .u8 w a len cap zs) (hs : (Lit.int .u16 t).wf = true) :
    Calls Try.prog 5 #[.slice a len cap, .int .u16 t] w fun e w' => e = .returned (.bool true) ∧ Below w.heap.size w w' := by
  by_cases hl : len = 0 ∨ 2000 < len
  · exact crcTurns_out a len cap t w hl h.max
  · obtain ⟨l, rfl, hr, hb⟩ := h.nat
    have e1 : IntKind.u16.min = 0 := by decide
    have e2 : IntKind.u16.max = 65535 := by decide
    simp [Lit.wf, e1, e2] at hs
    obtain ⟨n, rfl⟩ := Int.eq_ofNat_of_zero_le hs.1
    exact crcTurns_yes a cap l n w (by omega) (by omega) hr hb (by omega)
end Go.Proofs.Ytnibgcgmachhiaa
