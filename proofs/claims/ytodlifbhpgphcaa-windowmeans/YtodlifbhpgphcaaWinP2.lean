/- Layer 10, the program's: a workload's newest samples of a node. -/
import Derived.Test.YtodlifbhpgphcaaWinP1
import Derived.Test.YtodlifbhpgphcaaDotClone
import Derived.Test.YtodlifbhpgphcaaEvCopies
namespace Go.Proofs.Ytodlifbhpgphcaa
set_option linter.unusedVariables false
set_option linter.unusedSimpArgs false
open Go.ChangeShapes Go.WideShapes Go.ChangeAt Go.RowKit

/-- A call answers these events, in whatever row: in blocks of its own, or where what it was handed lies (T). -/
def POfPost (T : Nat → Prop) (l : List EvV) (w : World) (e : Ending) (w' : World) : Prop :=
  ∃ A N c m, e = .returned (.slice A N c) ∧ N = m.length ∧ plain m = plain l ∧ ERds w' (fun b => w.heap.size ≤ b ∨ T b) A m ∧ Below w.heap.size w w'
/-- How far copying has come. -/
def CsSt (w0 : World) (B : Nat) (l : List EvV) (i : Nat) (v : Value) (w : World) : Prop :=
  ∃ A N c m, v = .slice A N c ∧ Hid (N = m.length ∧ m.length = i ∧ plain m = (plain l).take i) ∧ EOwn w (fun b => w0.heap.size ≤ b) B (.slice A N c) m ∧ Below w0.heap.size w0 w
/-- What the places say. -/
theorem new_at {p : Cap} {k nd sz : Int} {ps : List (Fin p.n)} (h : ps.map p.ev = newQ k nd sz p.l) {i : Nat} (hi : i < ps.length) (hi' : i < (newQ k nd sz p.l).length) : (newQ k nd sz p.l)[i] = p.ev ps[i] := by
  simp only [← h, List.getElem_map]

set_option maxRecDepth 100000 in
set_option maxHeartbeats 8000000 in
theorem pof_any (T : Nat → Prop) (A : Option Addr) (n c : Nat) (l : List EvV) (k nd sz : Int) (w : World) (hn : l.length = n) (hr : ERds w T A l) (hl : n ≤ 900000) (hm : ∀ e ∈ l, e.M.length ≤ 1000000) :
    Calls Try.prog 11 #[.slice A n c, .int .i64 k, .int .i64 nd, .int .i64 sz] w (POfPost T (newQ k nd sz l) w) := by
  obtain ⟨p, hp⟩ : ∃ p : Cap, p = ⟨w.heap.size, fun b => T b ∧ b < w.heap.size, A, n, c, l, hn⟩ := ⟨_, rfl⟩
  have HNW : Hid (Calls Try.prog 20 #[.slice A n c, .int .i64 k, .int .i64 nd, .int .i64 sz] w (NewPost p k nd sz w)) := Lib.hid (newestP_any p T A n c l k nd sz w (by rw [hp]) (by rw [hp]) (by rw [hp]) (by rw [hp]) (by rw [hp]) (by rw [hp]; exact fun _ => Iff.rfl) hr hl)
  have HPN : Hid (p.n = n) := Lib.hid (by rw [hp])
  have HPL : Hid (p.l = l) := Lib.hid (by rw [hp])
  have HPE : Hid (∀ (x : Fin p.n) (h : x.val < l.length), p.ev x = l[x.val]) := Lib.hid (by subst hp; exact fun x h => rfl)
  have HN := Lib.hid hn
  obtain ⟨ll, hll⟩ : ∃ ll, ll = newQ k nd sz l := ⟨_, rfl⟩
  have HLE : Hid (ll.length ≤ 900000) := Lib.hid (by rw [hll]; have := newQ_len k nd sz l; omega)
  rw [← hll]
  have HLL := Lib.hid hll
  clear hp hll hn
  go_enter Try.func11, Try.ntmps11
  go_wp2_with fail
  refine HNW.out.mono ?_
  rintro e w1 ⟨A1, N1, c1, ps, rfl, hN1, hps, hR1, hb1⟩
  have HLN : Hid (ll.length = N1) := Lib.hid (by rw [HLL.out, ← hN1]; have := congrArg List.length hps; rw [List.length_map] at this; rw [this, HPL.out])
  have HPS : Hid (∀ i (hi : i < N1) (hi' : i < ll.length), ∃ t : Nat, ∃ ht : t < l.length, (ivs ps)[i]? = some (.int .i64 (t : Int)) ∧ l[t] = ll[i]) := Lib.hid (fun i hi hi' => by
    have h0 : i < ps.length := by rw [hN1]; exact hi
    have h1 : (ps[i]).val < l.length := by have h := (ps[i]).isLt; rw [HN.out, ← HPN.out]; exact h
    refine ⟨(ps[i]).val, h1, ivs_at ps i h0, ?_⟩
    have h2 : i < (newQ k nd sz p.l).length := by rw [HPL.out, ← HLL.out]; exact hi'
    have h3 := new_at hps h0 h2
    rw [← HPE.out _ h1, ← h3]
    have e : newQ k nd sz p.l = ll := by rw [HPL.out, HLL.out]
    simp only [e])
  have hN9 : N1 ≤ 900000 := by rw [← HLN.out]; exact HLE.out
  have HR1 := Lib.hid hR1
  have hb1s := hb1.size
  have hr1 := hr.new hb1
  have HRB : Hid (∀ e ∈ l, Rds w (fun b => b < w.heap.size) e.A (dvs e.M)) := Lib.hid (fun e he => ((hr.2 e he).old).mono (fun b hb => hb.2))
  clear hN1 hps hR1 HNW HPE HPL HPN HLE hr
  go_wp2_with fail
  go_loopw [9, 19] (fun ov iv wr => ∃ i : Nat, iv = .int .i64 i ∧ i ≤ N1 ∧ CsSt w w1.heap.size ll i ov wr ∧ Below w1.heap.size w1 wr) (fun _ iv _ => N1 - (intOf iv).toNat)
  case atStart => exact ⟨0, rfl, by omega, ⟨none, 0, 0, [], rfl, Lib.hid (by simp [plain]), EOwn.nil _ _ _, hb1⟩, Below.refl _ _⟩
  case round =>
    clear hb1
    obtain ⟨i, rfl, hi, ⟨Ao, No, co, m, rfl, HS, hO, hb⟩, hb1r⟩ := hrel
    by_cases hlt : i < N1
    · have hlt' : i < ll.length := by rw [HLN.out]; exact hlt
      obtain ⟨t, htl, hiv, hxe⟩ := HPS.out i hlt hlt'
      obtain ⟨adp, rfl, _, p0⟩ := (HR1.out.new hb1r) i _ hiv
      have htn : t < n := by rw [← HN.out]; exact htl
      obtain ⟨ad, rfl, _, _, c0, c1, c2, c3, c4, c5, c6, c7, c8, c9, c10, c11, c12, c13⟩ := (hr1.new hb1r).cells htl
      obtain ⟨x, hx⟩ : ∃ x, x = l[t] := ⟨_, rfl⟩
      have hxm : x ∈ l := by rw [hx]; exact List.getElem_mem htl
      rw [← hx] at c0 c1 c2 c3 c4 c5 c6 c7 c8 c9 c10 c11 c12 c13 hxe
      have hxr := HRB.out x hxm
      have hxl := hm x hxm
      have HX := Lib.hid hxe
      obtain ⟨F, M, Ax, cx⟩ := x
      simp only at c0 c1 c2 c3 c4 c5 c6 c7 c8 c9 c10 c11 c12 c13 hxl hxr
      obtain ⟨q, hq⟩ : ∃ q, M.length = q := ⟨_, rfl⟩
      rw [hq] at c13 hxl
      obtain ⟨w4, hw4⟩ : ∃ W, wr.alloc (.cells (ecs F Ax q cx) 46) = W := ⟨_, rfl⟩
      have hb4 : Below wr.heap.size wr w4 := by rw [← hw4]; exact b_alloc _ _
      have hX : Blo w4 wr.heap.size 46 (ecs F Ax q cx) := by rw [← hw4]; exact Blo.made _ _ _
      have hz4 : w4.heap.size = wr.heap.size + 1 := by rw [← hw4]; simp
      have hcp := clone_any _ Ax q cx M w4 hq ((hxr.below hb (fun b hb _ => hb)).new hb4) hxl
      have HW4 := Lib.hid hw4
      have HQ := Lib.hid hq
      have HZ4 := Lib.hid hz4
      have z13 : w4.cell? ⟨wr.heap.size, 13, none⟩ = some (.slice Ax q cx) := by simpa using hX.cell 13
      rw [← HW4.out] at z13
      have hiN : (i : Int) < (N1 : Int) := by omega
      clear hx hxm hq hw4 hxr hiv hxe hz4
      go_wp2_with fail
      rw [HW4.out]
      refine hcp.mono ?_
      unfold ClonePost
      rw [HQ.out]
      rintro e w5 ⟨A5, c5', rfl, hC5, hb5⟩
      clear c0 c1 c2 c3 c4 c5 c6 c7 c8 c9 c10 c11 c12 c13 hcp z13 p0
      have hX5 := hX.new hb5
      have f13 := hX5.frozen 13
      have y13 : w5.cell? ⟨wr.heap.size, 13, none⟩ = some (.slice Ax q cx) := by simpa using hX5.cell 13
      have hgx : w5.grownBy (w5.setCell ⟨wr.heap.size, 13, none⟩ (.slice A5 q c5')) (some wr.heap.size) := gb_set (World.grownBy.refl _ _) (.inl rfl) _
      have hX6 := hX5.put 13 (.slice A5 q c5')
      rw [ecs_more] at hX6
      obtain ⟨w6, hw6⟩ : ∃ W, w5.setCell ⟨wr.heap.size, 13, none⟩ (.slice A5 q c5') = W := ⟨_, rfl⟩
      rw [hw6] at hX6 hgx
      have hC6 : Copy w6 w4.heap.size A5 c5' M := ⟨hC5.1, hC5.2.imp id fun h => h.grown hgx (fun b hb e => h.blo hX5 (by decide) (hb.trans e))⟩
      have hb46 : Below wr.heap.size wr w6 := (below_new hb4 hb5).grown hgx (below_new hb4 hb5).size (fun k hk => by injection hk with hk; omega)
      have hO6 := hO.new hb46
      have hb06 := below_new hb hb46
      have hs6 := hb06.size
      have hb16 := below_new hb1r hb46
      have hap : Rds w6 (fun b => w.heap.size ≤ b ∧ some b ≠ (Value.slice Ao No co).ownBlock) A5 (dvs M) := Copy.apart hO6 hC6 (fun b hb' => by have h1 := hb.size; rw [HZ4.out] at hb'; omega)
      have hlit := blo_ers ⟨F, M, A5, c5'⟩ (Blo.made w6 46 (EvV.cells ⟨F, M, A5, c5'⟩))
      simp only [EvV.cells, HQ.out] at hlit
      obtain ⟨z0, z1, z2, z3, z4, z5, z6, z7, z8, z9, z10, z11, z12, z13⟩ := set14 hX6
      have hz56 : w6.heap.size = w5.heap.size := by rw [← hw6]; simp
      have HZ56 := Lib.hid hz56
      have hmm : m.length ≤ 900000 := by have := HS.out.2.1; omega
      have hB6 : w1.heap.size ≤ (w6.alloc (.cells (ecs F A5 q c5') 46)).heap.size := by have := hb16.size; simp; omega
      have HO6 := Lib.hid hO6
      clear hO hX hX5 hX6 hC5 hC6 hb4 hb5 hgx hb46 hz56
      go_wp2_with (at_builtin; refine wpList_eapp _ rfl _ _ rfl w1.heap.size _ m rfl (hO6.new (b_alloc _ _)).row (fun _ => True) _ 1 1 [⟨F, M, A5, c5'⟩] rfl rfl hlit (by simp; omega) hB6 ?_)
      intro v7 w7 hrow7 hg7 hv7
      have hO7 := (HO6.out.new (b_alloc _ _)).snoc hrow7 hg7 (by simpa using hv7) (hap.alloc _)
      have hb07 : Below w.heap.size w w7 := by
        have h1 := below_new hb06 (b_alloc w6 (.cells (ecs F A5 q c5') 46))
        exact h1.grown hg7 h1.size (fun k hk => Nat.le_trans hb1s ((HO6.out.row.lt k hk).1))
      have hb17 : Below w1.heap.size w1 w7 := by
        have h1 := below_new hb16 (b_alloc w6 (.cells (ecs F A5 q c5') 46))
        exact h1.grown hg7 h1.size (fun k hk => (HO6.out.row.lt k hk).1)
      obtain ⟨A7, c7', rfl, _⟩ := hrow7.form
      obtain ⟨N7, hN7⟩ : ∃ N, N = (m ++ [(⟨F, M, A5, c5'⟩ : EvV)]).length := ⟨_, rfl⟩
      rw [← hN7] at hO7 ⊢
      have HS7 : Hid (N7 = (m ++ [(⟨F, M, A5, c5'⟩ : EvV)]).length ∧ (m ++ [(⟨F, M, A5, c5'⟩ : EvV)]).length = i + 1 ∧ plain (m ++ [(⟨F, M, A5, c5'⟩ : EvV)]) = (plain ll).take (i + 1)) := Lib.hid ⟨hN7, by simp [HS.out.2.1], by rw [plain_app, HS.out.2.2, plain_take hlt', ← HX.out]; rfl⟩
      clear hN7 hrow7 hg7 hv7 hlit hap hO6
      go_wp2
      go_roundw
      case rel => exact ⟨i + 1, by go_num, by omega, ⟨A7, N7, c7', _, rfl, HS7, hO7, hb07⟩, hb17⟩
      case measure => simp [intOf]; omega
    · have HE : Hid (No = m.length ∧ plain m = plain ll) := Lib.hid (by
        have h1 := HS.out
        have h2 : i = (plain ll).length := by rw [plain_len, HLN.out]; omega
        rw [h2, List.take_length] at h1
        exact ⟨h1.1, h1.2.2⟩)
      have hiN : ¬ (i : Int) < (N1 : Int) := by omega
      go_wp2
      go_ret
      exact ⟨Ao, No, co, m, rfl, HE.out.1, HE.out.2, hO.erdsS.mono fun b hb => .inl (hb.elim (fun h => by omega) id), hb⟩
end Go.Proofs.Ytodlifbhpgphcaa
