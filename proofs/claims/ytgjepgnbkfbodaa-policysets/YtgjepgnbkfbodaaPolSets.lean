/- Layer 9, the program's: copies of rivals, the Sets of a workload in order. -/
import Derived.Test.YtgjepgnbkfbodaaDotClone
import Derived.Test.YtgjepgnbkfbodaaEvCopies
import Derived.Test.YtgjepgnbkfbodaaPolS8
import Derived.Test.YtgjepgnbkfbodaaPolP2
namespace Go.Proofs.Ytgjepgnbkfbodaa
set_option linter.unusedVariables false
set_option linter.unusedSimpArgs false
open Go.ChangeShapes Go.WideShapes Go.ChangeAt Go.RowKit

set_option maxRecDepth 100000 in
set_option maxHeartbeats 4000000 in
theorem rcopied_any (S : Nat → Prop) (F : Nat → Int) (A : Option Addr) (n c : Nat) (M : List D.Dot) (w : World) (hn : M.length = n) (hr : Rds w S A (dvs M)) (hl : n ≤ 1000000) :
    Calls Try.prog 27 #[ev F A n c] w (EvPost F M w) := by
  obtain ⟨w1, hw1⟩ : ∃ W, (w.alloc (.cells (ecs F A n c) 54)).alloc (.cells (ecs (fun _ => 0) none 0 0) 34) = W := ⟨_, rfl⟩
  obtain ⟨gx, hgx⟩ : ∃ q, q = w.heap.size := ⟨_, rfl⟩
  have hb1 : Below w.heap.size w w1 := by rw [← hw1]; exact b_alloc2 _ _ _
  have hz1 : w1.heap.size = w.heap.size + 2 := by rw [← hw1]; simp
  have hX : Blo w1 w.heap.size 54 (ecs F A n c) := by rw [← hw1]; exact (Blo.made _ _ _).alloc _
  have hY : Blo w1 (w.heap.size + 1) 34 (ecs (fun _ => 0) none 0 0) := by
    rw [← hw1]
    have := Blo.made (w.alloc (.cells (ecs F A n c) 54)) 34 (ecs (fun _ => 0) none 0 0)
    simpa using this
  have HW := Lib.hid hw1
  have HN := Lib.hid hn
  have hr1 := hr.new hb1
  clear hw1 hn hr
  have z13 : w1.cell? ⟨w.heap.size, 13, none⟩ = some (.slice A n c) := by simpa using hX.cell 13
  rw [← HW.out] at z13
  go_enter Try.func27, Try.ntmps27
  go_wp2_with fail
  rw [HW.out]
  refine (clone_any S A n c M w1 HN.out hr1 hl).mono ?_
  rintro e w2 ⟨A2, c2, rfl, hC2, hb2⟩
  have HL2 : Hid (M.length = n) := HN
  rw [HN.out]
  have hX2 := hX.new hb2
  have hY2 := hY.new hb2
  have hb02 := below_new hb1 hb2
  have f13 := hX2.frozen 13
  have y13 : w2.cell? ⟨w.heap.size, 13, none⟩ = some (.slice A n c) := by simpa using hX2.cell 13
  have hgx : w2.grownBy (w2.setCell ⟨w.heap.size, 13, none⟩ (.slice A2 n c2)) (some w.heap.size) := gb_set (World.grownBy.refl _ _) (.inl rfl) _
  have hX3 := hX2.put 13 (.slice A2 n c2)
  rw [ecs_more] at hX3
  have hY3 := hY2.grown hgx (fun e => by injection e with e; omega)
  have hC3 : Copy (w2.setCell ⟨w.heap.size, 13, none⟩ (.slice A2 n c2)) w1.heap.size A2 c2 M := ⟨hC2.1, hC2.2.imp id fun h => h.grown hgx (fun b hb e => h.blo hX2 (by decide) (hb.trans e))⟩
  have hb03 := hb02.grown hgx hb02.size (fun k hk => by injection hk with hk; omega)
  obtain ⟨w3, hw3⟩ : ∃ W, w2.setCell ⟨w.heap.size, 13, none⟩ (.slice A2 n c2) = W := ⟨_, rfl⟩
  rw [hw3] at hX3 hY3 hC3 hb03
  obtain ⟨z0, z1, z2, z3, z4, z5, z6, z7, z8, z9, z10, z11, z12, z13'⟩ := set14 hX3
  clear hgx hX2 hY2 hC2 hb02 hb2 hr1 hX hY hb1
  go_wp2_with (refine wpList_sete _ rfl _ _ rfl (w.heap.size + 1) _ rfl F A2 n c2 rfl hY3 rfl ?_)
  intro w4 hZ4 hg4
  have hC4 : Copy w4 w1.heap.size A2 c2 M := ⟨hC3.1, hC3.2.imp id fun h => h.grown hg4 (fun b hb e => h.blo hY3 (by decide) (hb.trans e))⟩
  have hb04 := hb03.grown hg4 hb03.size (fun k hk => by injection hk with hk; omega)
  clear z0 z1 z2 z3 z4 z5 z6 z7 z8 z9 z10 z11 z12 z13' z13 f13 hw3
  obtain ⟨z0, z1, z2, z3, z4, z5, z6, z7, z8, z9, z10, z11, z12, z13⟩ := set14 hZ4
  go_wp2
  refine bodyPost_ret (v := ev F A2 n c2) ?_ rfl ?_
  · simp [results, Try.results27, go_sem, z0, z1, z2, z3, z4, z5, z6, z7, z8, z9, z10, z11, z12, z13]
  unfold EvPost
  rw [HN.out]
  exact ⟨A2, c2, rfl, ⟨hC4.1, hC4.2.imp id fun h => h.mono (by omega)⟩, hb04⟩

/-- A call answers these events, in a row of its own, their dots in rows of its own. -/
def SetsPost (l : List EvV) (w : World) (e : Ending) (w' : World) : Prop :=
  ∃ A N c m, e = .returned (.slice A N c) ∧ N = m.length ∧ plain m = plain l ∧ EOwn w' (fun b => w.heap.size ≤ b) w.heap.size (.slice A N c) m ∧ (∀ e ∈ m, Copy w' w.heap.size e.A e.c e.M) ∧ Below w.heap.size w w'
/-- How far copying has come. -/
def CsSt (w0 : World) (B : Nat) (l : List EvV) (i : Nat) (v : Value) (w : World) : Prop :=
  ∃ A N c m, v = .slice A N c ∧ Hid (N = m.length ∧ m.length = i ∧ plain m = (plain l).take i) ∧ EOwn w (fun b => w0.heap.size ≤ b) B (.slice A N c) m ∧ Hid (∀ e ∈ m, Copy w w0.heap.size e.A e.c e.M) ∧ Below w0.heap.size w0 w
theorem mem_sets {k : Int} {l : List EvV} {e : EvV} (h : e ∈ P.isort ltE (sets k l)) : e ∈ l := (List.mem_filter.1 (P.Stb.mem ordE (P.isort_stb ordE (sets k l)) h)).1

set_option maxRecDepth 100000 in
set_option maxHeartbeats 8000000 in
theorem psets_any (S : Nat → Prop) (A : Option Addr) (n c : Nat) (l : List EvV) (k : Int) (w : World) (hn : l.length = n) (hr : ERds w S A l) (hl : n ≤ 900000) (hm : ∀ e ∈ l, e.M.length ≤ 1000000) :
    Calls Try.prog 11 #[.slice A n c, .int .i64 k] w (SetsPost (P.isort ltE (sets k l)) w) := by
  have HR := Lib.hid (rivals_any S A n c l k w hn hr hl)
  have HLE : Hid ((P.isort ltE (sets k l)).length ≤ 900000) := Lib.hid (by rw [P.isort_len]; have := sets_le l k; omega)
  obtain ⟨ll, hll⟩ : ∃ ll, ll = P.isort ltE (sets k l) := ⟨_, rfl⟩
  have HRD : Hid (∀ e ∈ ll, Rds w (fun b => b < w.heap.size) e.A (dvs e.M) ∧ e.M.length ≤ 1000000) := Lib.hid (fun e he => by
    rw [hll] at he
    have h := mem_sets he
    exact ⟨(hr.2 e h).old.mono (fun b hb => hb.2), hm e h⟩)
  rw [← hll] at HLE ⊢
  have HLL := Lib.hid hll
  clear hll hm hr hn
  go_enter Try.func11, Try.ntmps11
  go_wp2_with fail
  refine HR.out.mono ?_
  rintro e w1 ⟨A1, N1, c1, rfl, hN1, hR1, hb1⟩
  have HN1 := Lib.hid hN1
  clear HR hN1
  have hby := by_any w1
  go_wp2_with fail
  refine hby.mono ?_
  rintro e w2 ⟨rfl, hC2, hb2⟩
  clear hby
  have hR2 := hR1.new hb2
  have hb02 := below_new hb1 hb2
  have hlen : (sets k l).length = N1 := HN1.out.symm
  have HLN : Hid (ll.length = N1) := Lib.hid (by rw [HLL.out, P.isort_len]; exact hlen)
  have hN9 : N1 ≤ 900000 := by rw [← HLN.out]; exact HLE.out
  have key : Calls Try.prog 24 #[.slice A1 N1 c1, cmpV w1.heap.size] w2 fun e w' => e = .returned (.tuple #[]) ∧ Rds w' (fun b => w.heap.size ≤ b) A1 (evs ll) ∧ Below w.heap.size w w' := by
    by_cases h0 : N1 = 0
    · subst h0
      refine (sortstable_none c1 _ A1 w2).mono ?_
      rintro e w3 ⟨rfl, rfl⟩
      have : ll = [] := List.eq_nil_of_length_eq_zero HLN.out
      rw [this]
      exact ⟨rfl, Rds.nil, hb02⟩
    · obtain ⟨g, rfl, hgb, hS2⟩ := RRow.srow hR2 h0
      have hgw : g < w1.heap.size := (hR1.lt g rfl).2
      refine (sortstable_any g N1 c1 w1.heap.size (sets k l) w2 hlen hS2 hC2 (by omega) hN9).mono ?_
      rintro e w3 ⟨rfl, l', hS3, hl', hg3⟩
      rw [hl', ← HLL.out] at hS3
      exact ⟨rfl, hS3.rds.mono (fun b hb => by rw [hb]; exact hgb), hb02.grown hg3 hb02.size (fun k hk => by injection hk with hk; omega)⟩
  have HK := Lib.hid key
  clear key hR1 hR2 hC2 hb1 hb2 hb02 HN1 hlen
  go_wp2_with fail
  refine HK.out.mono ?_
  rintro e w3 ⟨rfl, hRD3, hb3⟩
  clear HK
  have HR3 := Lib.hid hRD3
  have hb3s := hb3.size
  clear hRD3
  go_wp2_with fail
  go_loopw [6, 17] (fun ov iv wr => ∃ i : Nat, iv = .int .i64 i ∧ i ≤ N1 ∧ CsSt w w3.heap.size ll i ov wr ∧ Below w3.heap.size w3 wr) (fun _ iv _ => N1 - (intOf iv).toNat)
  case atStart => exact ⟨0, rfl, by omega, ⟨none, 0, 0, [], rfl, Lib.hid (by simp [plain]), EOwn.nil _ _ _, Lib.hid (fun e he => by cases he), hb3⟩, Below.refl _ _⟩
  case round =>
    clear hb3
    obtain ⟨i, rfl, hi, ⟨Ao, No, co, m, rfl, HS, hO, HCP, hb⟩, hb3r⟩ := hrel
    by_cases hlt : i < N1
    · have hlt' : i < ll.length := by rw [HLN.out]; exact hlt
      have hER : ERds wr (fun b => b < w.heap.size ∨ w.heap.size ≤ b) A1 ll := ⟨(HR3.out.new hb3r).mono (fun b hb => .inr hb), fun e he => ((HRD.out e he).1.below hb (fun b hb _ => hb)).mono (fun b hb => .inl hb)⟩
      obtain ⟨ad, rfl, _, _, c0, c1, c2, c3, c4, c5, c6, c7, c8, c9, c10, c11, c12, c13⟩ := hER.cells hlt'
      obtain ⟨x, hx⟩ : ∃ x, x = ll[i] := ⟨_, rfl⟩
      have hxm : x ∈ ll := by rw [hx]; exact List.getElem_mem hlt'
      rw [← hx] at c0 c1 c2 c3 c4 c5 c6 c7 c8 c9 c10 c11 c12 c13
      have hxr := (HRD.out x hxm).1
      have hxl := (HRD.out x hxm).2
      have HX := Lib.hid hx
      obtain ⟨F, M, Ax, cx⟩ := x
      simp only at c0 c1 c2 c3 c4 c5 c6 c7 c8 c9 c10 c11 c12 c13 hxl hxr
      obtain ⟨q, hq⟩ : ∃ q, M.length = q := ⟨_, rfl⟩
      rw [hq] at c13 hxl
      obtain ⟨w4, hw4⟩ : ∃ W, wr.alloc (.cells (ecs F Ax q cx) 54) = W := ⟨_, rfl⟩
      have hb4 : Below wr.heap.size wr w4 := by rw [← hw4]; exact b_alloc _ _
      have hcp := rcopied_any _ F Ax q cx M w4 hq ((hxr.below hb (fun b hb _ => hb)).new hb4) hxl
      have HW4 := Lib.hid hw4
      have HQ := Lib.hid hq
      clear hx hxm hq hw4 hER hxr
      go_wp2_with fail
      rw [HW4.out]
      refine hcp.mono ?_
      unfold EvPost
      rw [HQ.out]
      rintro e w5 ⟨A5, c5', rfl, hC5, hb5⟩
      clear c0 c1 c2 c3 c4 c5 c6 c7 c8 c9 c10 c11 c12 c13 hcp
      have hO5 := (hO.new hb4).new hb5
      have hb05 := below_new (below_new hb hb4) hb5
      have hs5 := hb05.size
      have hb35 := below_new (below_new hb3r hb4) hb5
      have hap : Rds w5 (fun b => w.heap.size ≤ b ∧ some b ≠ (Value.slice Ao No co).ownBlock) A5 (dvs M) := Copy.apart hO5 hC5 (fun b hb' => Nat.le_trans (below_new hb hb4).size hb')
      have hlit := blo_ers ⟨F, M, A5, c5'⟩ (Blo.made w5 34 (EvV.cells ⟨F, M, A5, c5'⟩))
      simp only [EvV.cells, HQ.out] at hlit
      have HCP5 : Hid (∀ e ∈ m ++ [(⟨F, M, A5, c5'⟩ : EvV)], Copy w5 w.heap.size e.A e.c e.M) := Lib.hid (fun e he => by
        rcases List.mem_append.1 he with he | he
        · exact ((HCP.out e he).new hb4).new hb5
        · simp at he; subst he; exact hC5.mono (below_new hb hb4).size)
      clear hO
      go_wp2_with (at_builtin; refine wpList_eapp _ rfl _ _ rfl w3.heap.size _ m rfl (hO5.new (b_alloc _ _)).row (fun _ => True) _ 1 1 [⟨F, M, A5, c5'⟩] rfl rfl hlit (by have := HS.out.2.1; omega) (by have := hb35.size; simp; omega) ?_)
      intro v6 w6 hrow6 hg6 hv6
      have hO6 := (hO5.new (b_alloc _ _)).snoc hrow6 hg6 (by simpa using hv6) (hap.alloc _)
      have hb06 : Below w.heap.size w w6 := by
        have h1 := below_new hb05 (b_alloc w5 (.cells (ecs F A5 q c5') 34))
        exact h1.grown hg6 h1.size (fun k hk => Nat.le_trans hb3s ((hO5.row.lt k hk).1))
      have hb36 : Below w3.heap.size w3 w6 := by
        have h1 := below_new hb35 (b_alloc w5 (.cells (ecs F A5 q c5') 34))
        exact h1.grown hg6 h1.size (fun k hk => (hO5.row.lt k hk).1)
      have HCP6 : Hid (∀ e ∈ m ++ [(⟨F, M, A5, c5'⟩ : EvV)], Copy w6 w.heap.size e.A e.c e.M) := Lib.hid (fun e he => ⟨(HCP5.out e he).1, (HCP5.out e he).2.imp id fun h => (h.alloc _).grown hg6 (fun b hb => hO5.row.dots h b hb)⟩)
      obtain ⟨A6, c6', rfl, _⟩ := hrow6.form
      obtain ⟨N6, hN6⟩ : ∃ N, N = (m ++ [(⟨F, M, A5, c5'⟩ : EvV)]).length := ⟨_, rfl⟩
      rw [← hN6] at hO6 ⊢
      have HS6 : Hid (N6 = (m ++ [(⟨F, M, A5, c5'⟩ : EvV)]).length ∧ (m ++ [(⟨F, M, A5, c5'⟩ : EvV)]).length = i + 1 ∧ plain (m ++ [(⟨F, M, A5, c5'⟩ : EvV)]) = (plain ll).take (i + 1)) := Lib.hid ⟨hN6, by simp [HS.out.2.1], by rw [plain_app, HS.out.2.2, plain_take hlt', ← HX.out]; rfl⟩
      clear hN6 hrow6 hg6 hv6 hlit hap hO5
      go_wp2
      go_roundw
      case rel => exact ⟨i + 1, by go_num, by omega, ⟨A6, N6, c6', _, rfl, HS6, hO6, HCP6, hb06⟩, hb36⟩
      case measure => simp [intOf]; omega
    · have HE : Hid (No = m.length ∧ plain m = plain ll) := Lib.hid (by
        have h1 := HS.out
        have h2 : i = (plain ll).length := by rw [plain_len, HLN.out]; omega
        rw [h2, List.take_length] at h1
        exact ⟨h1.1, h1.2.2⟩)
      go_wp2
      go_ret
      exact ⟨Ao, No, co, m, rfl, HE.out.1, HE.out.2, hO.mono hb3s (fun b h => h), HCP.out, hb⟩
end Go.Proofs.Ytgjepgnbkfbodaa
