/- Layer 7, the document's own: Copies, PutAll, All (of the same). -/
import Derived.Test.YtlckappnpdkihaaEvMem
import Derived.Test.YtlckappnpdkihaaEvRefSame
import Derived.Test.YtlckappnpdkihaaEvRefPut
namespace Go.Proofs.Ytlckappnpdkihaa
set_option linter.unusedVariables false
set_option linter.unusedSimpArgs false
open Go.ChangeShapes Go.WideShapes Go.ChangeAt Go.RowKit

/-- A call answers these events, in a row of its own, their dots in blocks of its own. -/
def EvsPost (l : List E.Ev) (w : World) (e : Ending) (w' : World) : Prop :=
  ∃ A c m, e = .returned (.slice A l.length c) ∧ plain m = l ∧ EOwn w' (fun b => w.heap.size ≤ b) w.heap.size (.slice A l.length c) m ∧ Below w.heap.size w w'
/-- How far copying has come. -/
def CpSt (w0 : World) (l : List EvV) (i : Nat) (v : Value) (w : World) : Prop :=
  ∃ A N c m, v = .slice A N c ∧ Hid (N = m.length ∧ m.length = i ∧ plain m = (plain l).take i) ∧ EOwn w (fun b => w0.heap.size ≤ b) w0.heap.size (.slice A N c) m ∧ Below w0.heap.size w0 w
theorem plain_take {l : List EvV} {i : Nat} (h : i < l.length) : (plain l).take (i + 1) = (plain l).take i ++ [(l[i].F, l[i].M)] := by
  rw [List.take_succ_eq_append_getElem (by rw [plain_len]; exact h)]
  simp [plain]
theorem Copy.apart {w : World} {S : Nat → Prop} {B B2 : Nat} {v : Value} {l : List EvV} {A : Option Addr} {c : Nat} {M : List D.Dot} (h : EOwn w S B v l) (hD : Copy w B2 A c M) (hS : ∀ b, B2 ≤ b → S b) : Rds w (fun b => S b ∧ some b ≠ v.ownBlock) A (dvs M) := by
  rcases hD.2 with rfl | hD
  · exact Rds.nil
  · exact h.apart hD hS

set_option maxRecDepth 100000 in
set_option maxHeartbeats 4000000 in
theorem ecopies_any (S : Nat → Prop) (A : Option Addr) (n c : Nat) (l : List EvV) (w : World) (hn : l.length = n) (hr : ERds w S A l) (hl : n ≤ 900000) (hm : ∀ e ∈ l, e.M.length ≤ 1000000) :
    Calls Try.prog 17 #[.slice A n c] w (EvsPost (plain l) w) := by
  have HN := Lib.hid hn
  have HM := Lib.hid hm
  clear hn hm
  go_enter Try.func17, Try.ntmps17
  go_wp2_with fail
  go_loopw [3, 8] (fun ov iv wr => ∃ i : Nat, iv = .int .i64 i ∧ i ≤ n ∧ CpSt w l i ov wr) (fun _ iv _ => n - (intOf iv).toNat)
  case atStart => exact ⟨0, rfl, by omega, none, 0, 0, [], rfl, Lib.hid (by simp [plain]), EOwn.nil _ _ _, Below.refl _ _⟩
  case round =>
    obtain ⟨i, rfl, hi, Ao, No, co, m, rfl, HS, hO, hb⟩ := hrel
    by_cases hlt : i < n
    · have hlt' : i < l.length := by rw [HN.out]; exact hlt
      obtain ⟨ad, rfl, _, hrx, c0, c1, c2, c3, c4, c5, c6, c7, c8, c9, c10, c11, c12, c13⟩ := (hr.new hb).cells hlt'
      obtain ⟨x, hx⟩ : ∃ x, x = l[i] := ⟨_, rfl⟩
      rw [← hx] at hrx c0 c1 c2 c3 c4 c5 c6 c7 c8 c9 c10 c11 c12 c13
      have hxl : x.M.length ≤ 1000000 := by rw [hx]; exact HM.out _ (List.getElem_mem hlt')
      have HX := Lib.hid hx
      obtain ⟨F, M, Ax, cx⟩ := x
      simp only at hrx c0 c1 c2 c3 c4 c5 c6 c7 c8 c9 c10 c11 c12 c13 hxl
      obtain ⟨q, hq⟩ : ∃ q, M.length = q := ⟨_, rfl⟩
      rw [hq] at c13 hxl
      obtain ⟨w1, hw1⟩ : ∃ W, wr.alloc (.cells (ecs F Ax q cx) 28) = W := ⟨_, rfl⟩
      obtain ⟨g1, hg1⟩ : ∃ g, g = wr.heap.size := ⟨_, rfl⟩
      have hb1 : Below wr.heap.size wr w1 := by rw [← hw1]; exact b_alloc _ _
      have hX1 : Blo w1 g1 28 (ecs F Ax q cx) := by rw [← hw1, hg1]; exact Blo.made _ _ _
      have hcp := ecopy_any _ F Ax q cx M w1 hq (hrx.new hb1) hxl
      have HW1 := Lib.hid hw1
      have HG1 := Lib.hid hg1
      have HQ := Lib.hid hq
      clear hx hq hw1 hg1 hrx
      go_wp2_with fail
      rw [HW1.out, ← HG1.out]
      clear c0 c1 c2 c3 c4 c5 c6 c7 c8 c9 c10 c11 c12 c13
      obtain ⟨c0, c1, c2, c3, c4, c5, c6, c7, c8, c9, c10, c11, c12, c13⟩ := set14 hX1
      go_wp2_with fail
      refine hcp.mono ?_
      unfold EvPost
      rw [HQ.out]
      rintro e w2 ⟨A2, c2', rfl, hC2, hb2⟩
      have hO2 := (hO.new hb1).new hb2
      have hb02 := below_new (below_new hb hb1) hb2
      have hs2 := hb02.size
      have hap : Rds w2 (fun b => w.heap.size ≤ b ∧ some b ≠ (Value.slice Ao No co).ownBlock) A2 (dvs M) := Copy.apart hO2 hC2 (fun b hb' => Nat.le_trans (below_new hb hb1).size hb')
      have hlit := blo_ers ⟨F, M, A2, c2'⟩ (Blo.made w2 28 (EvV.cells ⟨F, M, A2, c2'⟩))
      simp only [EvV.cells, HQ.out] at hlit
      clear c0 c1 c2 c3 c4 c5 c6 c7 c8 c9 c10 c11 c12 c13 hcp hO
      go_wp2_with (at_builtin; refine wpList_eapp _ rfl _ _ rfl w.heap.size _ m rfl (hO2.new (b_alloc _ _)).row (fun _ => True) _ 1 1 [⟨F, M, A2, c2'⟩] rfl rfl hlit (by have := HS.out.2.1; omega) (by simp; omega) ?_)
      intro v3 w3 hrow3 hg3 hv3
      have hO3 := (hO2.new (b_alloc _ _)).snoc hrow3 hg3 (by simpa using hv3) (hap.alloc _)
      have hb03 : Below w.heap.size w w3 := by
        have h1 := below_new hb02 (b_alloc w2 (.cells (ecs F A2 q c2') 28))
        exact h1.grown hg3 h1.size (fun k hk => (hO2.row.lt k hk).1)
      obtain ⟨A3, c3', rfl, _⟩ := hrow3.form
      obtain ⟨N3, hN3⟩ : ∃ N, N = (m ++ [(⟨F, M, A2, c2'⟩ : EvV)]).length := ⟨_, rfl⟩
      rw [← hN3] at hO3 ⊢
      have HS3 : Hid (N3 = (m ++ [(⟨F, M, A2, c2'⟩ : EvV)]).length ∧ (m ++ [(⟨F, M, A2, c2'⟩ : EvV)]).length = i + 1 ∧ plain (m ++ [(⟨F, M, A2, c2'⟩ : EvV)]) = (plain l).take (i + 1)) := Lib.hid ⟨hN3, by simp [HS.out.2.1], by rw [plain_app, HS.out.2.2, plain_take hlt', ← HX.out]; rfl⟩
      clear hN3 hrow3 hg3 hv3 hlit hap
      go_wp2
      go_roundw
      case rel => exact ⟨i + 1, by go_num, by omega, A3, N3, c3', _, rfl, HS3, hO3, hb03⟩
      case measure => simp [intOf]; omega
    · have HE : Hid (No = (plain l).length ∧ plain m = plain l) := Lib.hid (by
        have h1 := HS.out
        have h2 : i = (plain l).length := by rw [plain_len, HN.out]; omega
        rw [h2, List.take_length] at h1
        exact ⟨by omega, h1.2.2⟩)
      go_wp2
      go_ret
      unfold EvsPost
      rw [← HE.out.1]
      exact ⟨Ao, co, m, rfl, HE.out.2, hO, hb⟩

theorem encs_of {F : Nat → Int} {M : List D.Dot} (h : E.right F M = true) : (V.encs (E.nums F M)).length ≤ 1800 ∧ Byt (V.encs (E.nums F M)) := by
  have h1 := V.encs_len _ (nums_in h)
  have h2 := nums_len (F := F) (M := M) (E.right_parts h).2.2.1
  exact ⟨by omega, V.encs_byt _ (nums_in h)⟩
/-- How far putting has come. -/
def PtSt (w0 : World) (l : List E.Ev) (n i : Nat) (v : Value) (w : World) : Prop :=
  ∃ A N c L, v = .slice A N c ∧ Hid (N = L.length ∧ L = V.enc (n : Int) ++ E.bod (l.take i) ∧ ∀ e ∈ l.take i, E.right e.1 e.2 = true) ∧ N ≤ 10 + 1800 * i ∧ w.ownsRow w0.heap.size 5 1 (.slice A N c) N (u8s L) ∧ Below w0.heap.size w0 w
theorem bod_snoc (l : List E.Ev) (F : Nat → Int) (M : List D.Dot) : E.bod (l ++ [(F, M)]) = E.bod l ++ V.encs (E.nums F M) := by simp [E.bod]
theorem putAE_bad {l : List E.Ev} (h : l.length ≤ 768) {e : E.Ev} (he : e ∈ l) (hr : E.right e.1 e.2 = false) : E.putAE l = 2 ∧ E.putAB l = [] := by
  have h1 : E.allRight l = false := by
    cases e1 : E.allRight l with
    | false => rfl
    | true => have := List.all_eq_true.1 e1 e he; rw [hr] at this; cases this
  have h2 : E.putAE l = 2 := by unfold E.putAE; rw [if_neg (by omega), h1]; rfl
  exact ⟨h2, by unfold E.putAB; rw [h2]; rfl⟩
theorem putAE_good {l : List E.Ev} (h : l.length ≤ 768) (hr : ∀ e ∈ l, E.right e.1 e.2 = true) : E.putAE l = 0 ∧ E.putAB l = V.enc (l.length : Int) ++ E.bod l := by
  have h1 : E.allRight l = true := List.all_eq_true.2 hr
  have h2 : E.putAE l = 0 := by unfold E.putAE; rw [if_neg (by omega), h1]; rfl
  exact ⟨h2, by unfold E.putAB; rw [if_pos h2]⟩
theorem putAE_long {l : List E.Ev} (h : 768 < l.length) : E.putAE l = 6 ∧ E.putAB l = [] := by
  have h2 : E.putAE l = 6 := by unfold E.putAE; rw [if_pos h]
  exact ⟨h2, by unfold E.putAB; rw [h2]; rfl⟩

set_option maxRecDepth 100000 in
set_option maxHeartbeats 4000000 in
theorem eputall_any (S : Nat → Prop) (A : Option Addr) (n c : Nat) (l : List EvV) (w : World) (hn : l.length = n) (hr : ERds w S A l) (hl : n ≤ maxLen) (hm : ∀ e ∈ l, e.M.length ≤ 1000000) :
    Calls Try.prog 19 #[.slice A n c] w (BytesPost7 (E.putAB (plain l)) (E.putAE (plain l)) w) := by
  obtain ⟨i0, hi0, hz0, hz1, hz2⟩ := info_parts Try.rowU8
  have HN := Lib.hid hn
  have HM := Lib.hid hm
  clear hn hm
  by_cases h768 : 768 < n
  · have h1 : (768 : Int) < (n : Int) := by omega
    have HP := Lib.hid (putAE_long (l := plain l) (by rw [plain_len, HN.out]; exact h768))
    go_enter Try.func19, Try.ntmps19
    go_wp2
    go_ret2
    rw [HP.out.1, HP.out.2]
    exact ⟨none, 0, 0, rfl, rfl, World.ownsRow_nil _ _ _ _, Below.refl _ _⟩
  have h1 : ¬ (768 : Int) < (n : Int) := by omega
  have h6 := V.enc_len6 (n := (n : Int)) (by omega)
  have hp := rput_yes (fun _ => True) none 0 [] (n : Int) w Rds.nil (by simp) (by omega) (by omega)
  unfold PutPost at hp
  simp only [List.nil_append, List.length_nil] at hp
  obtain ⟨K0, hK0⟩ : ∃ K, K = V.enc (n : Int) := ⟨_, rfl⟩
  rw [← hK0] at hp h6
  have HK := Lib.hid hK0
  clear hK0
  go_enter Try.func19, Try.ntmps19
  go_wp2_with fail
  refine hp.mono ?_
  rintro e w1 ⟨A1, c1, rfl, hown1, hb1⟩
  obtain ⟨N1, hN1⟩ : ∃ N, N = K0.length := ⟨_, rfl⟩
  rw [← hN1] at hown1 h6 ⊢
  have HN1 := Lib.hid hN1
  clear hN1 hp
  go_wp2_with fail
  go_loopw [4, 21] (fun bv iv wr => ∃ i : Nat, iv = .int .i64 i ∧ i ≤ n ∧ PtSt w (plain l) n i bv wr) (fun _ iv _ => n - (intOf iv).toNat)
  case atStart => exact ⟨0, rfl, by omega, A1, N1, c1, K0, rfl, Lib.hid ⟨HN1.out, by rw [← HK.out]; simp [E.bod], fun e he => by simp at he⟩, by omega, hown1, hb1⟩
  case round =>
    obtain ⟨i, rfl, hi, Ab, Nb, cb, L, rfl, HS, hNb, hown, hb⟩ := hrel
    by_cases hlt : i < n
    · have hlt' : i < l.length := by rw [HN.out]; exact hlt
      obtain ⟨ad, rfl, _, hrx, c0, c1, c2, c3, c4, c5, c6, c7, c8, c9, c10, c11, c12, c13⟩ := (hr.new hb).cells hlt'
      obtain ⟨x, hx⟩ : ∃ x, x = l[i] := ⟨_, rfl⟩
      rw [← hx] at hrx c0 c1 c2 c3 c4 c5 c6 c7 c8 c9 c10 c11 c12 c13
      have hxl : x.M.length ≤ 1000000 := by rw [hx]; exact HM.out _ (List.getElem_mem hlt')
      have HX := Lib.hid hx
      have HXm : Hid ((x.F, x.M) ∈ plain l) := Lib.hid (by rw [hx]; exact List.mem_map.2 ⟨_, List.getElem_mem hlt', rfl⟩)
      obtain ⟨F, M, Ax, cx⟩ := x
      simp only at hrx c0 c1 c2 c3 c4 c5 c6 c7 c8 c9 c10 c11 c12 c13 hxl HXm
      obtain ⟨q, hq⟩ : ∃ q, M.length = q := ⟨_, rfl⟩
      rw [hq] at c13 hxl
      obtain ⟨w2, hw2⟩ : ∃ W, wr.alloc (.cells (ecs F Ax q cx) 28) = W := ⟨_, rfl⟩
      obtain ⟨g2, hg2⟩ : ∃ g, g = wr.heap.size := ⟨_, rfl⟩
      have hb2 : Below wr.heap.size wr w2 := by rw [← hw2]; exact b_alloc _ _
      have hX2 : Blo w2 g2 28 (ecs F Ax q cx) := by rw [← hw2, hg2]; exact Blo.made _ _ _
      have hput := eput_any _ F Ax q cx M w2 hq (hrx.new hb2) (by unfold maxLen; omega)
      have HW2 := Lib.hid hw2
      have HG2 := Lib.hid hg2
      have hb02 := below_new hb hb2
      clear hx hq hw2 hg2 hrx
      go_wp2_with fail
      rw [HW2.out, ← HG2.out]
      clear c0 c1 c2 c3 c4 c5 c6 c7 c8 c9 c10 c11 c12 c13
      obtain ⟨c0, c1, c2, c3, c4, c5, c6, c7, c8, c9, c10, c11, c12, c13⟩ := set14 hX2
      go_wp2_with fail
      refine hput.mono ?_
      rintro e w3 ⟨A3, N3, c3', rfl, hN3, hown3, hb3⟩
      have hb03 := below_new hb02 hb3
      have hownB := own_keep (w' := w3) hown fun g _ hgl => (hb3.block g (Nat.lt_of_lt_of_le hgl hb2.size)).trans (hb2.block g hgl)
      clear c0 c1 c2 c3 c4 c5 c6 c7 c8 c9 c10 c11 c12 c13 hput
      cases hrt : E.right F M with
      | false =>
        have HP := Lib.hid (putAE_bad (l := plain l) (by rw [plain_len, HN.out]; omega) HXm.out hrt)
        have e2 : E.putE F M = 2 := by unfold E.putE; rw [hrt]; rfl
        rw [e2]
        clear hrt e2
        go_wp2
        go_ret2
        rw [HP.out.1, HP.out.2]
        exact ⟨none, 0, 0, rfl, rfl, World.ownsRow_nil _ _ _ _, hb03⟩
      | true =>
        have e2 : E.putE F M = 0 := by unfold E.putE; rw [hrt]; rfl
        have eB : E.putB F M = V.encs (E.nums F M) := by unfold E.putB; rw [hrt]; rfl
        rw [e2]
        rw [eB] at hN3 hown3
        have h18 := (encs_of hrt).1
        have HS2 : Hid (Nb + N3 = (L ++ V.encs (E.nums F M)).length ∧ L ++ V.encs (E.nums F M) = V.enc (n : Int) ++ E.bod ((plain l).take (i + 1)) ∧ ∀ e ∈ (plain l).take (i + 1), E.right e.1 e.2 = true) := Lib.hid (by
          obtain ⟨s1, s2, s3⟩ := HS.out
          refine ⟨by rw [List.length_append, s1, hN3], ?_, ?_⟩
          · rw [plain_take hlt', ← HX.out, bod_snoc, s2, List.append_assoc]
          · rw [plain_take hlt', ← HX.out]
            intro e he
            rcases List.mem_append.1 he with h | h
            · exact s3 e h
            · simp at h; subst h; exact hrt)
        obtain ⟨X, hX⟩ : ∃ X, X = V.encs (E.nums F M) := ⟨_, rfl⟩
        rw [← hX] at hN3 hown3 h18 HS2
        have hN3l : N3 ≤ 1800 := by omega
        have HN3 := Lib.hid hN3
        have hr3 := own_rds hown3
        have hs03 := hb03.size
        clear hrt e2 eB hX hN3 h18
        go_wp2_with (at_builtin; refine wpList_app _ rfl _ _ 36 rfl w.heap.size 5 i0 (.int .u8 0) 1 Try.underlying36 hi0 hz0 hz1 hz2 rfl (.slice Ab Nb cb) Nb (u8s L) rfl hownB _ A3 N3 c3' (u8s X) rfl (by rw [HN3.out]; simp) hr3 (one_ints _ _) (by unfold maxLen; omega) (by omega) (by omega) ?_)
        intro v4 w4 hown4 hg4 _
        obtain ⟨A4, c4, rfl, _, _⟩ := own_form hown4
        have hb04 : Below w.heap.size w w4 := hb03.grown hg4 hb03.size (fun k hk => (hownB.lt k hk).1)
        obtain ⟨N4, hN4⟩ : ∃ N, N = Nb + N3 := ⟨_, rfl⟩
        rw [← hN4] at hown4 HS2 ⊢
        have hN4l : N4 ≤ 10 + 1800 * (i + 1) := by omega
        have hown4' : w4.ownsRow w.heap.size 5 1 (.slice A4 N4 c4) N4 (u8s (L ++ X)) := by simpa using hown4
        clear hN4 hown4 hg4 hr3
        go_wp2
        go_roundw
        case rel => exact ⟨i + 1, by go_num, by omega, A4, N4, c4, L ++ X, rfl, HS2, hN4l, hown4', hb04⟩
        case measure => simp [intOf]; omega
    · have HP : Hid (E.putAE (plain l) = 0 ∧ E.putAB (plain l) = L) := Lib.hid (by
        obtain ⟨s1, s2, s3⟩ := HS.out
        have h2 : i = (plain l).length := by rw [plain_len, HN.out]; omega
        rw [h2, List.take_length] at s2 s3
        obtain ⟨p1, p2⟩ := putAE_good (l := plain l) (by rw [plain_len, HN.out]; omega) s3
        refine ⟨p1, ?_⟩
        rw [p2, s2, plain_len, HN.out])
      go_wp2
      go_ret2
      rw [HP.out.1, HP.out.2]
      exact ⟨Ab, Nb, cb, rfl, HS.out.1, hown, hb⟩
end Go.Proofs.Ytlckappnpdkihaa
