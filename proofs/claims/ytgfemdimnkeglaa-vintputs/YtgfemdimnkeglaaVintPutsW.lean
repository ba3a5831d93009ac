/- The walk of VintPuts. -/
import Derived.Test.YtgfemdimnkeglaaVintAlive
namespace Go.Proofs.Ytgfemdimnkeglaa
open Go.ChangeShapes Go.WideShapes Go.ChangeAt Go.RowKit

set_option maxHeartbeats 1000000 in
theorem vintPuts_big (a : Option Addr) (len cap : Nat) (n : Int) (w : World) (hl : 1000 < len) (hm : len ≤ maxLen) :
    Calls Try.prog 3 #[.slice a len cap, .int .i64 n] w fun e w' => e = .returned (.bool true) ∧ Below w.heap.size w w' := by
  unfold maxLen at hm
  go_enter Try.func3, Try.ntmps3
  go_wp2_with fail
  refine (alive_yes w).mono ?_
  rintro e w1 ⟨rfl, hb⟩
  go_wp2
  go_ret
  exact ⟨rfl, hb⟩

set_option maxHeartbeats 1000000 in
theorem vintPuts_no (a : Option Addr) (cap : Nat) (b : List Int) (n : Int) (w : World) (hr : Rds w (· < w.heap.size) a (u8s b)) (hl : b.length ≤ 1000) (hn : n < 0 ∨ 1099511627776 < n) :
    Calls Try.prog 3 #[.slice a b.length cap, .int .i64 n] w fun e w' => e = .returned (.bool true) ∧ Below w.heap.size w w' := by
  have HN := Lib.hid hn
  clear hn
  go_enter Try.func3, Try.ntmps3
  go_wp2_with fail
  refine (alive_yes w).mono ?_
  rintro e w1 ⟨rfl, hb1⟩
  have hr1 := hr.new hb1
  go_wp2_with fail
  refine (lent_any _ a cap b w1 hr1 (by omega)).mono ?_
  rintro e w2 ⟨g, rfl, hg, hbl, hb2⟩
  have hr2 := hr1.new hb2
  have hB2 := below_new hb1 hb2
  clear hr hr1 hb1 hb2
  go_wp2_with fail
  refine (put_no _ _ _ n w2 HN.out).mono ?_
  rintro e w3 ⟨rfl, rfl⟩
  go_wp2_with fail
  refine (rput_no _ _ _ n w2 HN.out).mono ?_
  rintro e w3 ⟨rfl, rfl⟩
  go_wp2_with fail
  refine (same_yes (fun _ => True) (fun _ => True) none none 0 0 [] w2 Rds.nil Rds.nil (by simp)).mono ?_
  rintro e w3 ⟨rfl, hd⟩
  have hr3 := hd.rds hr2
  have hbl3 := hd.blo hbl
  have hB3 : Below w.heap.size w w3 := hB2.trans (hd.below _)
  clear hr2 hbl hB2 hd
  go_wp2_with fail
  go_loop [41] (fun iv => iv = .int .i64 0) (fun _ => 0)
  case atStart => rfl
  case round =>
    obtain rfl := hrel
    go_wp2_with fail
    refine (kept_yes _ a cap g b w3 hbl3 hr3 (by omega)).mono ?_
    rintro e w4 ⟨rfl, hd⟩
    go_wp2
    go_ret
    exact ⟨rfl, hB3.trans (hd.below _)⟩

set_option maxHeartbeats 1000000 in
theorem vintPuts_yes (a : Option Addr) (cap : Nat) (b : List Int) (n : Int) (w : World) (hr : Rds w (· < w.heap.size) a (u8s b)) (hl : b.length ≤ 1000) (h0 : 0 ≤ n) (h1 : n ≤ 1099511627776) :
    Calls Try.prog 3 #[.slice a b.length cap, .int .i64 n] w fun e w' => e = .returned (.bool true) ∧ Below w.heap.size w w' := by
  have h6 := V.enc_len6 h1
  obtain ⟨x, hx⟩ : ∃ x, x = b ++ V.enc n := ⟨_, rfl⟩
  have HX := Lib.hid hx
  have hxl : x.length ≤ 1006 := by rw [hx]; simp; omega
  clear hx h6
  go_enter Try.func3, Try.ntmps3
  go_wp2_with fail
  refine (alive_yes w).mono ?_
  rintro e w1 ⟨rfl, hb1⟩
  have hr1 := hr.new hb1
  go_wp2_with fail
  refine (lent_any _ a cap b w1 hr1 (by omega)).mono ?_
  rintro e w2 ⟨g, rfl, hg, hbl, hb2⟩
  have hr2 := hr1.new hb2
  have hB2 := below_new hb1 hb2
  have hs1 := hb1.size
  clear hr hr1 hb1 hb2
  go_wp2_with fail
  refine (put_yes _ _ _ b n w2 (lent_rds hbl) (by omega) h0 h1).mono ?_
  rintro e w3 ⟨A3, c3, rfl, hown3, hb3⟩
  rw [← HX.out] at hown3 ⊢
  have hr3 := hr2.new hb3
  have hbl3 := hbl.new hb3
  have hB3 := below_new hB2 hb3
  have l2 := hbl.lt
  have hs2 := hB2.size
  have hs3 := hb3.size
  clear hr2 hbl hB2 hb3
  go_wp2_with fail
  refine (rput_yes _ _ _ b n w3 hr3 (by omega) h0 h1).mono ?_
  rintro e w4 ⟨A4, c4, rfl, hown4, hb4⟩
  rw [← HX.out] at hown4 ⊢
  have hr4 := hr3.new hb4
  have hbl4 := hbl3.new hb4
  have hB4 := below_new hB3 hb4
  have hown34 := own_keep hown3 fun k _ hk => hb4.block k hk
  have hs4 := hb4.size
  clear hr3 hbl3 hB3 hb4 hown3
  go_wp2_with fail
  refine (same_yes _ _ _ _ _ _ x w4 (own_rds hown34) (own_rds hown4) (by omega)).mono ?_
  rintro e w5 ⟨rfl, hd⟩
  have hr5 := hd.rds hr4
  have hbl5 := hd.blo hbl4
  have hown5 := hd.own hown34
  have hB5 : Below w.heap.size w w5 := hB4.trans (hd.below _)
  have hs5 := (hd.below 0).size
  have hS := Soft.start hown5
  have hk : ∀ k, (Value.slice A3 x.length 0).ownBlock = some k → w2.heap.size ≤ k := fun k hk => (hown5.lt k ((ownBlock_any A3 x.length c3 x.length 0).trans hk)).1
  have HK := Lib.hid hk
  clear hr4 hbl4 hB4 hown34 hown4 hd hown5 hk
  go_wp2_with fail
  go_loopw [41] (fun iv wr => ∃ i : Nat, iv = .int .i64 i ∧ i ≤ x.length ∧ Soft w5 wr A3 x.length) (fun iv _ => x.length - (intOf iv).toNat)
  case atStart => exact ⟨0, rfl, Nat.zero_le _, hS⟩
  case round =>
    obtain ⟨i, rfl, hi, hS'⟩ := hrel
    by_cases hlt : i < x.length
    · obtain ⟨gx, z, rfl, cz, fz, hS2⟩ := hS'.at hlt
      have HS2 := Lib.hid hS2
      clear hS2
      go_wp2
      go_roundw
      case rel => exact ⟨i + 1, by go_num, by omega, HS2.out _⟩
      case measure => simp [intOf]; omega
    · have hgb := hS'.1
      have hr6 := hr5.grown hgb fun k hk1 _ e => by have := HK.out k e.symm; omega
      have hbl6 := hbl5.grown hgb fun e => by have := HK.out g e.symm; omega
      have hB6 := hB5.grown hgb (by omega) fun k hk1 => by have := HK.out k hk1; omega
      go_wp2_with fail
      refine (kept_yes _ a cap g b wr hbl6 hr6 (by omega)).mono ?_
      rintro e w4 ⟨rfl, hd⟩
      go_wp2
      go_ret
      exact ⟨rfl, hB6.trans (hd.below _)⟩

theorem vintPuts_walk (a : Option Addr) (len cap : Nat) (zs : List Int) (n : Int) (w : World) (h : RowIn .u8 w a len cap zs) (_ : (Lit.int .i64 n).wf = true) :
    Calls Try.prog 3 #[.slice a len cap, .int .i64 n] w fun e w' => e = .returned (.bool true) ∧ Below w.heap.size w w' := by
  have hlen := h.len
  by_cases hl : 1000 < len
  · refine vintPuts_big a len cap n w hl ?_
    rcases h with ⟨_, h, _⟩ | ⟨_, _, h1, h2, _⟩ <;> omega
  · have hr := h.rds
    have e : (.slice a len cap : Value) = .slice a (zs.take len).length cap := by rw [hlen.1]
    rw [e]
    by_cases hn : n < 0 ∨ 1099511627776 < n
    · exact vintPuts_no a cap _ n w hr (by rw [hlen.1]; omega) hn
    · exact vintPuts_yes a cap _ n w hr (by rw [hlen.1]; omega) (by omega) (by omega)

end Go.Proofs.Ytgfemdimnkeglaa
