/- Layer 12: what RankOrders comes to. -/
import Derived.Test.YtdgmbopdommnhaaRnkAlive
namespace Go.Proofs.Ytdgmbopdommnhaa
set_option linter.unusedVariables false
set_option linter.unusedSimpArgs false
open Go.ChangeShapes Go.WideShapes Go.ChangeAt Go.RowKit

theorem quiet_drew {P : Program} {f : FuncId} {args : Array Value} {w : World} {n : Nat} {v : Value}
    (h : Calls P f args (w.drewN n) fun e w' => e = .returned v ∧ Drew (w.drewN n) w') : Calls P f args (w.drewN n) fun e w'' => e = .returned v ∧ ∃ m, w'' = w.drewN m :=
  h.mono fun _ _ ⟨he, hm⟩ => ⟨he, by obtain ⟨k, hk⟩ := (Drew.refl w).more n |>.trans hm; exact ⟨k, hk⟩⟩
theorem sv8_one {V : Nat → Value} {n : Nat → Nat} (h : ∀ i, i < 8 → ∃ A c, V i = .slice A (n i) c) : ∀ v ∈ (sv8 V).toList, v.oneCell' = true := fun v hv => by
  have h : ∀ i, i < 8 → (V i).oneCell' = true := fun i hi => by
    obtain ⟨A, c, e⟩ := h i hi
    rw [e]; rfl
  simp at hv
  rcases hv with rfl | rfl | rfl | rfl | rfl | rfl | rfl | rfl
  · exact h 0 (by omega)
  · exact h 1 (by omega)
  · exact h 2 (by omega)
  · exact h 3 (by omega)
  · exact h 4 (by omega)
  · exact h 5 (by omega)
  · exact h 6 (by omega)
  · exact h 7 (by omega)

set_option maxRecDepth 100000 in
set_option maxHeartbeats 8000000 in
theorem rnkorders_main (S : Nat → Prop) (A : Option Addr) (n c : Nat) (ns : List Int) (k : Int) (s : Nat) (w : World) (hs : s < 18446744073709551616) (hn : ns.length = n) (hr : Rds w S A (i64s ns)) :
    Calls Try.prog 3 #[.slice A n c, .int .i64 k, .int .u64 (s : Int)] w fun e w' => e = .returned (.bool true) ∧ Below w.heap.size w w' := by
  have HSS := Lib.hid hs
  have HN := Lib.hid hn
  clear hs hn
  go_enter Try.func3, Try.ntmps3
  go_wp2_with fail
  refine (rnkalive_any _).mono ?_
  rintro e w2 ⟨rfl, hb2⟩
  have hr2 := hr.new hb2
  clear hr
  by_cases hl : 200 < n
  · have hl' : (200 : Int) < (n : Int) := by omega
    go_wp2
    go_ret
    exact ⟨rfl, hb2⟩
  · have hl' : ¬ (200 : Int) < (n : Int) := by omega
    have hn9 : n ≤ 900000 := by omega
    obtain ⟨i0, hi0, hz0, hz1, hz2⟩ := info_parts Try.rowIntK
    have hown : (w2.alloc (.cells #[] 3)).ownsRow w2.heap.size 3 1 (.slice (some ⟨w2.heap.size, 0, none⟩) 0 0) 0 [] := World.ownsRow_lit w2 #[] 0 (Nat.le_refl _) (by unfold maxLen; omega) rfl
    have hr3 := hr2.new (b_alloc w2 (.cells #[] 3))
    have hs3 : w2.heap.size ≤ (w2.alloc (.cells #[] 3)).heap.size := (b_alloc w2 _).size
    have hnl : (i64s ns).length = n := by rw [i64s_len]; exact HN.out
    go_wp2_with (at_builtin; refine wpList_app _ rfl _ _ 22 rfl w2.heap.size 3 i0 _ 8 Try.underlying22 hi0 hz0 hz1 hz2 rfl _ _ _ rfl hown _ A n c (i64s ns) rfl hnl hr3 (one_ints _ _) (by unfold maxLen; omega) (by omega) hs3 ?_)
    intro v4 w4 hown4 hg4 _
    have hb4 : Below w2.heap.size w2 w4 := (b_alloc w2 _).grown hg4 (b_alloc w2 _).size fun k hk => by simp [Value.ownBlock] at hk; omega
    have hb04 := below_new hb2 hb4
    have hr4 := hr2.new hb4
    obtain ⟨A4, c4, rfl, _, _⟩ := own_form hown4
    try rw [Nat.zero_add]
    have hi4 : Rds w4 (fun _ => True) A4 (i64s ns) := by
      have := (own_rds hown4).mono (S' := fun _ => True) fun _ _ => trivial
      simpa using this
    have HPO : Hid (∀ W, Below w4.heap.size w4 W → _) := Lib.hid (fun W h => powner_any (fun _ => True) A4 n c4 ns k s W HSS.out HN.out (hi4.new h) hn9)
    have HRO : Hid (∀ W, Below w4.heap.size w4 W → _) := Lib.hid (fun W h => rowner_any S A n c ns k s W HSS.out HN.out (hr4.new h) hn9)
    have HPL : Hid (∀ W, Below w4.heap.size w4 W → _) := Lib.hid (fun W h => porder_any (fun _ => True) A4 n c4 ns k s W HSS.out HN.out (hi4.new h) hn9)
    have HRL : Hid (∀ W, Below w4.heap.size w4 W → _) := Lib.hid (fun W h => rorder_any S A n c ns k s W HSS.out HN.out (hr4.new h) hn9)
    have HPS : Hid (∀ W, Below w4.heap.size w4 W → _) := Lib.hid (fun W h => pshare_any (fun _ => True) A4 n c4 ns s W HSS.out HN.out (hi4.new h) hn9)
    have HRS : Hid (∀ W, Below w4.heap.size w4 W → _) := Lib.hid (fun W h => rshare_any S A n c ns s W HSS.out HN.out (hr4.new h) hn9)
    have HII : Hid (∀ W, Below w4.heap.size w4 W → _) := Lib.hid (fun W h => ints_any (fun _ => True) S A4 A n c4 n c ns ns W HN.out (hi4.new h) HN.out (hr4.new h) hn9)
    clear hown hown4 hg4 hb2 hb4 hr2 hr3 hr4 hi4 hnl hi0 hz0 hz1 hz2 hs3
    obtain ⟨ow, how⟩ : ∃ ow, ow = R.own ns k s := ⟨_, rfl⟩
    obtain ⟨oe, hoe⟩ : ∃ oe, oe = R.oer ns k s := ⟨_, rfl⟩
    simp only [← how, ← hoe] at HPO HRO
    clear how hoe
    go_wp2_with fail
    refine (HPO.out _ (Below.refl _ _)).mono ?_
    rintro e w5 ⟨rfl, hb5⟩
    go_wp2_with fail
    refine (HRO.out _ hb5).mono ?_
    rintro e w6 ⟨rfl, hb6⟩
    have hb46 := below_new hb5 hb6
    clear hb5 hb6 HPO HRO
    go_wp2_with fail
    refine (HPL.out _ hb46).mono ?_
    rintro e w7 ⟨A7, N7, c7, rfl, hN7, hR7, hb7⟩
    have HN7 := Lib.hid hN7
    clear hN7
    have hb47 := below_new hb46 hb7
    go_wp2_with fail
    refine (HRL.out _ hb47).mono ?_
    rintro e w8 ⟨A8, N8, c8, rfl, hN8, hR8, hb8⟩
    have HN8 := Lib.hid hN8
    clear hN8
    have hb48 := below_new hb47 hb8
    have hR7' := hR7.new hb8
    have hI := ints_any _ _ A7 A8 N7 c7 N8 c8 (zi (R.all ns k s)) (zi (R.all ns k s)) w8 (by rw [zi_len, HN7.out]) hR7' (by rw [zi_len, HN8.out]) hR8 (by rw [HN7.out]; have := R.all_len (ns := ns) (k := k) (s := s); omega)
    rw [show decide (zi (R.all ns k s) = zi (R.all ns k s)) = true by simp] at hI
    have HIO := Lib.hid hI
    clear hI hR7 hR7' hR8 hb46 hb47 hb7 hb8 HPL HRL
    go_wp2_with fail
    refine HIO.out.mono ?_
    rintro e w9 ⟨rfl, hd9⟩
    have hb49 := below_new hb48 (hd9.below _)
    clear HIO hb48 hd9
    go_wp2_with fail
    refine (HPS.out _ hb49).mono ?_
    rintro e w10 ⟨V, rfl, hV, hb10⟩
    have hb410 := below_new hb49 hb10
    go_wp2_with fail
    refine (HRS.out _ hb410).mono ?_
    rintro e w11 ⟨U, rfl, hU, hb11⟩
    have hb411 := below_new hb410 hb11
    have HV : Hid (∀ i, i < 8 → ∃ A N c, V i = .slice A N c ∧ N = (R.shr ns s i 8).length ∧ Rds w11 (fun _ => True) A (i64s (zi (R.shr ns s i 8)))) := Lib.hid fun i hi => by
      obtain ⟨A, N, c, e, l, r⟩ := hV i hi
      exact ⟨A, N, c, e, l, r.new hb11⟩
    have HU := Lib.hid hU
    clear hV hU hb10 hb11 hb410 hb49 HPS HRS
    have hA12 : Blo ((w11.alloc (.cells (sv8 fun _ => .slice none 0 0) 32)).alloc (.cells (sv8 fun _ => .slice none 0 0) 32)) w11.heap.size 32 (sv8 fun _ => .slice none 0 0) := (Blo.made _ _ _).alloc _
    have hB12 : Blo ((w11.alloc (.cells (sv8 fun _ => .slice none 0 0) 32)).alloc (.cells (sv8 fun _ => .slice none 0 0) 32)) (w11.heap.size + 1) 32 (sv8 fun _ => .slice none 0 0) := by
      have := Blo.made (w11.alloc (.cells (sv8 fun _ => .slice none 0 0) 32)) 32 (sv8 fun _ => .slice none 0 0)
      simpa using this
    have hb12 : Below w11.heap.size w11 ((w11.alloc (.cells (sv8 fun _ => .slice none 0 0) 32)).alloc (.cells (sv8 fun _ => .slice none 0 0) 32)) := b_alloc2 _ _ _
    have hVo : ∀ v ∈ (sv8 V).toList, v.oneCell' = true := sv8_one (n := fun i => (R.shr ns s i 8).length) fun i hi => by
      obtain ⟨A, N, c, e, l, _⟩ := HV.out i hi
      exact ⟨A, c, by rw [e, l]⟩
    have hUo : ∀ v ∈ (sv8 U).toList, v.oneCell' = true := sv8_one (n := fun i => (R.shr ns s i 8).length) fun i hi => by
      obtain ⟨A, N, c, e, l, _⟩ := HU.out i hi
      exact ⟨A, c, by rw [e, l]⟩
    have HUO := Lib.hid hUo
    clear hUo
    go_wp2_with (refine wpList_setb _ rfl 32 _ _ rfl w11.heap.size _ (sv8 V) rfl rfl hA12 (by kernel_rfl) rfl hVo ?_)
    intro w13 hA13 hg13
    have hB13 := hB12.grown hg13 (fun e => by injection e with e; omega)
    have hb13 := hb12.grown hg13 hb12.size (fun k hk => by injection hk with hk; omega)
    clear hA12 hB12 hb12 hg13 hVo
    go_wp2_with (refine wpList_setb _ rfl 32 _ _ rfl (w11.heap.size + 1) _ (sv8 U) rfl rfl hB13 (by kernel_rfl) rfl HUO.out ?_)
    intro w14 hB14 hg14
    have hA14 := hA13.grown hg14 (fun e => by injection e with e; omega)
    have hb14 := hb13.grown hg14 hb13.size (fun k hk => by injection hk with hk; omega)
    have hb414 := below_new hb411 hb14
    have HVU : Hid (∀ (i : Nat) W, i < 8 → Drew w14 W → ∃ A N c A' N' c', V i = .slice A N c ∧ U i = .slice A' N' c' ∧ ∀ W', Drew W W' → Calls Try.prog 10 #[.slice A N c, .slice A' N' c'] W' fun e w' => e = .returned (.bool true) ∧ Drew W' w') := Lib.hid (fun i W hi hd => by
      obtain ⟨A, N, c, e, l, r⟩ := HV.out i hi
      obtain ⟨A', N', c', e', l', r'⟩ := HU.out i hi
      refine ⟨A, N, c, A', N', c', e, e', fun W' hd' => ?_⟩
      have h := ints_any _ _ A A' N c N' c' (zi (R.shr ns s i 8)) (zi (R.shr ns s i 8)) W' (by rw [zi_len, l]) ((hd.trans hd').rds (r.new hb14)) (by rw [zi_len, l']) ((hd.trans hd').rds (r'.new hb14)) (by rw [l]; have := R.shr_len (ns := ns) (s := s) i 8; omega)
      rw [show decide (zi (R.shr ns s i 8) = zi (R.shr ns s i 8)) = true by simp] at h
      exact h)
    clear hA13 hB13 hg14 hb13 hb14 hb411 HV HU HUO
    go_wp2_with fail
    go_loopw [63] (fun iv wr => ∃ i : Nat, iv = .int .i64 i ∧ i ≤ 8 ∧ Drew w14 wr) (fun iv _ => 8 - (intOf iv).toNat)
    case atStart => exact ⟨0, rfl, by omega, Drew.refl _⟩
    case round =>
      obtain ⟨i, rfl, hi, hd⟩ := hrel
      by_cases hlt : i < 8
      · have hi8 : (i : Int) < 8 := by omega
        obtain ⟨Ai, Ni, ci, Bi, Mi, di, hVi, hUi, hcall⟩ := HVU.out i wr hlt hd
        have y0 : wr.cell? ⟨w11.heap.size, i, none⟩ = some (.slice Ai Ni ci) := by rw [(hd.blo hA14).cell i, sv8_at V hlt, hVi]
        have y1 : wr.cell? ⟨w11.heap.size + 1, i, none⟩ = some (.slice Bi Mi di) := by rw [(hd.blo hB14).cell i, sv8_at U hlt, hUi]
        have HCL := Lib.hid hcall
        clear hcall hVi hUi
        go_wp2_with fail
        go_quiet ((go_at_call 10; exact quiet_drew (HCL.out _ ((Drew.refl _).more _))))
        obtain ⟨W, hd2, hW⟩ : ∃ W, Drew w14 W ∧ wr.drewN nq = W := ⟨_, hd.more nq, rfl⟩
        rw [hW]
        clear y0 y1 HCL
        go_wp2
        go_roundw
        case rel => exact ⟨i + 1, by go_num, by omega, hd2⟩
        case measure => simp [intOf]; omega
      · have hi8 : ¬ (i : Int) < 8 := by omega
        have hb4r := below_new hb414 (hd.below _)
        have hI := HII.out wr hb4r
        rw [show decide True = true by simp] at hI
        go_wp2_with fail
        refine hI.mono ?_
        rintro e w15 ⟨rfl, hd15⟩
        have hbf := below_new (below_new hb04 hb4r) (hd15.below _)
        go_wp2
        go_ret
        exact ⟨rfl, hbf⟩
end Go.Proofs.Ytdgmbopdommnhaa
