/- The walk of FrameTurns. -/
import Derived.Test.YtombbepgeimfmaaFrameAlive
namespace Go.Proofs.Ytombbepgeimfmaa
open Go.ChangeShapes Go.WideShapes Go.ChangeAt Go.RowKit

set_option maxHeartbeats 1000000 in
theorem frameTurns_out (a : Option Addr) (len cap : Nat) (t x : Int) (w : World) (hl : 300 < len ∨ x = 0) (hm : len ≤ maxLen) :
    Calls Try.prog 6 #[.slice a len cap, .int .u16 t, .int .u8 x] w fun e w' => e = .returned (.bool true) ∧ Below w.heap.size w w' := by
  unfold maxLen at hm
  have HL := Lib.hid hl
  clear hl
  go_enter Try.func6, Try.ntmps6
  go_wp2_with fail
  refine (frame_alive w).mono ?_
  rintro e w1 ⟨rfl, hb⟩
  by_cases h1 : 300 < len
  · go_wp2
    go_ret
    exact ⟨rfl, hb⟩
  · have h2 : x = 0 := HL.out.resolve_left h1
    subst h2
    go_wp2
    go_ret
    exact ⟨rfl, hb⟩

theorem ownI_at {w : World} {base g n c i : Nat} {t : TypeId} {l : List Int} (h : w.ownsRow base t 1 (.slice (some ⟨g, 0, none⟩) n c) n (u8s l)) (hi : i < l.length) : w.cell? ⟨g, i, none⟩ = some (.int .u8 l[i]) := by
  have h1 := h.cells (g := g) rfl i (.int .u8 l[i]) (by simp [hi])
  simpa [M.addMk] using h1
theorem own_some {w : World} {base : Nat} {t : TypeId} {v : Value} {n : Nat} {xs : List Value} (h : w.ownsRow base t 1 v n xs) (hn : 0 < n) : ∃ g c, v = .slice (some ⟨g, 0, none⟩) n c := by
  rcases h.2 with ⟨_, h0⟩ | ⟨g, cap, _, hv, _⟩
  · omega
  · exact ⟨g, cap, hv⟩

set_option maxHeartbeats 1000000 in
theorem frameTurns_yes (a : Option Addr) (cap : Nat) (b : List Int) (t x : Nat) (w : World) (hr : Rds w (· < w.heap.size) a (u8s b)) (hl : b.length ≤ 300) (hb : Byt b) (ht : t < 65536) (hx0 : x ≠ 0) (hx : x < 256) :
    Calls Try.prog 6 #[.slice a b.length cap, .int .u16 (t : Int), .int .u8 (x : Int)] w fun e w' => e = .returned (.bool true) ∧ Below w.heap.size w w' := by
  have hpl := F.put_len_le (b := b) (by omega)
  have hpl0 := F.put_len b
  have hel : (V.enc (b.length : Int)).length = if 128 ≤ b.length then 2 else 1 := by
    split
    · rw [V.enc_big (by omega), V.enc_small (by omega)]; rfl
    · rw [V.enc_small (by omega)]; rfl
  obtain ⟨p, hp⟩ : ∃ p, p = F.put b := ⟨_, rfl⟩
  have hpB : Byt p := by rw [hp]; exact F.put_byt hb (by omega)
  have hp0 : 0 < p.length := by rw [hp]; omega
  rw [← hp] at hpl
  obtain ⟨i, hi0, hiL⟩ : ∃ i : Nat, ((t : Int) % (p.length : Int)) = (i : Int) ∧ i < p.length := ⟨t % p.length, by simp, Nat.mod_lt _ hp0⟩
  have hne0 : ((p.length : Int) == 0) = false := by simp; intro h; rw [h] at hp0; simp at hp0
  have hx0' : ((x : Int) == 0) = false := by simp; omega
  have HP := Lib.hid hp
  have HPL := Lib.hid hpl0
  have HEL := Lib.hid hel
  clear hp hpl0 hel
  go_enter Try.func6, Try.ntmps6
  go_wp2_with fail
  refine (frame_alive w).mono ?_
  rintro e w1 ⟨rfl, hB1⟩
  have hr1 := hr.new hB1
  clear hr
  go_wp2_with fail
  refine (fput_yes _ a _ cap b w1 rfl hr1 (by omega) hb).mono ?_
  rintro e w2 ⟨v, rfl, ⟨A2, c2, rfl, ho⟩, hb2⟩
  rw [← HP.out] at ho ⊢
  have hB2 := below_new hB1 hb2
  have hs1 := hB1.size
  obtain ⟨g, c, hv⟩ := own_some ho hp0
  injection hv with e1 _ e3
  subst e1; subst e3
  clear hr1 hB1 hb2
  by_cases hskip : i = 1 ∨ i = 2 ∧ 128 ≤ b.length
  · clear ho
    rcases hskip with h1 | ⟨h2, h3⟩
    · have d1 : ((i : Int) == 1) = true := by simp; omega
      clear h1
      go_wp2
      go_ret
      exact ⟨rfl, hB2⟩
    · have d1 : ((i : Int) == 1) = false := by simp; omega
      have d2 : ((i : Int) == 2) = true := by simp; omega
      have d3 : decide (128 ≤ (b.length : Int)) = true := by simp; omega
      clear h2 h3
      go_wp2
      go_ret
      exact ⟨rfl, hB2⟩
  · have hbt := hpB.at hiL
    obtain ⟨q, hq⟩ := Int.eq_ofNat_of_zero_le hbt.1
    have cI := ownI_at ho hiL
    have fI := ho.frozenAt i
    rw [hq] at cI
    have hq8 : q < 256 := by omega
    have hy8 : q ^^^ x < 256 := Nat.xor_lt_two_pow (n := 8) hq8 hx
    have hxe : bits .xor .u8 (q : Int) (x : Int) = ((q ^^^ x : Nat) : Int) := u8_xor_nat q x hq8 hx
    have hyn : q ^^^ x ≠ q := by
      intro h
      have h1 : q ^^^ x = q ^^^ 0 := by rw [h, Nat.xor_zero]
      exact hx0 (C.xor_cancel' h1)
    obtain ⟨y, hy⟩ : ∃ y, q ^^^ x = y := ⟨_, rfl⟩
    rw [hy] at hy8 hxe hyn
    have ho3 : (w2.setCell ⟨g, i, none⟩ (.int .u8 (y : Int))).ownsRow w1.heap.size 5 1 (.slice (some ⟨g, 0, none⟩) p.length c2) p.length (u8s (p.set i (y : Int))) := by
      have := (ho.stored i (.int .u8 (y : Int))).1
      rwa [show u8s (p.set i (y : Int)) = (u8s p).set i (.int .u8 (y : Int)) by simp [List.map_set]]
    have hg3 := (ho.stored i (.int .u8 (y : Int))).2
    have hgl := ho.lt g rfl
    have hB3 := hB2.grown hg3 (by omega) fun k hk => by injection hk with hk; omega
    have hcc : p.length ≤ c2 := by
      obtain ⟨_, _, h, h', _⟩ := own_form ho
      injection h with _ _ h
      subst h
      exact h'
    have hT : (F.get (p.set i (y : Int))).1 ≠ 0 := by
      have e := HP.out
      subst e
      refine F.get_turned hb (by omega) hiL (by omega) (by rw [hq]; omega) ?_
      rw [HEL.out]
      split <;> omega
    have hpB3 : Byt (p.set i (y : Int)) := fun z hz => by
      rcases List.mem_or_eq_of_mem_set hz with h | h
      · exact hpB z h
      · omega
    have hT' : ((F.get (p.set i (y : Int))).1 != 0) = true := by simpa using hT
    have HT := Lib.hid hT
    obtain ⟨w3, hw3⟩ : ∃ w3, w2.setCell ⟨g, i, none⟩ (.int .u8 (y : Int)) = w3 := ⟨_, rfl⟩
    rw [hw3] at ho3 hB3
    have hrd3 := own_rds ho3
    have d1 : ((i : Int) == 1) = false := by simp; omega
    have hsk : ((i : Int) == 2) = false ∨ ((i : Int) == 2) = true ∧ decide (128 ≤ (b.length : Int)) = false := by
      by_cases h2 : i = 2
      · exact .inr ⟨by simp [h2], by simp; omega⟩
      · exact .inl (by simp; omega)
    clear hskip hT hg3 hgl ho ho3 hy hyn hq hbt hB2
    rcases hsk with d2 | ⟨d2, d3⟩
    all_goals
      go_wp2_with fail
      refine (get_any _ _ _ c2 (p.set i (y : Int)) w3 (by simp) hrd3 (by simpa using hcc) (by simp; omega) hpB3).mono ?_
      rintro e w4 ⟨⟨h, _⟩ | ⟨_, rfl⟩, hB4⟩
      · exact absurd h HT.out
      have hB5 := below_new hB3 hB4
      clear hw3 cI fI
      go_wp2
      go_ret
      exact ⟨rfl, hB5⟩

theorem frameTurns_walk (a : Option Addr) (len cap : Nat) (zs : List Int) (t x : Int) (w : World) (h : RowIn .u8 w a len cap zs) (ht : (Lit.int .u16 t).wf = true) (hx : (Lit.int .u8 x).wf = true) :
    Calls Try.prog 6 #[.slice a len cap, .int .u16 t, .int .u8 x] w fun e w' => e = .returned (.bool true) ∧ Below w.heap.size w w' := by
  have hlen := h.len
  by_cases hl : 300 < len ∨ x = 0
  · exact frameTurns_out a len cap t x w hl h.max
  · have hr := h.rds
    have hb := h.byt
    have e : (.slice a len cap : Value) = .slice a (zs.take len).length cap := by rw [hlen.1]
    rw [e]
    have e1 : IntKind.u16.min = 0 := by decide
    have e2 : IntKind.u16.max = 65535 := by decide
    have e3 : IntKind.u8.min = 0 := by decide
    have e4 : IntKind.u8.max = 255 := by decide
    simp [Lit.wf, e1, e2] at ht
    simp [Lit.wf, e3, e4] at hx
    obtain ⟨n, rfl⟩ := Int.eq_ofNat_of_zero_le ht.1
    obtain ⟨y, rfl⟩ := Int.eq_ofNat_of_zero_le hx.1
    exact frameTurns_yes a cap _ n y w hr (by rw [hlen.1]; omega) hb (by omega) (by omega) (by omega)
end Go.Proofs.Ytombbepgeimfmaa
