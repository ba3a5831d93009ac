/- Layer 12, the document's own: Order. -/
import Derived.Test.YtdgmbopdommnhaaRnkMath
import Derived.Test.YtdgmbopdommnhaaRnkPutX
import Derived.Test.YtdgmbopdommnhaaMixTD
import Derived.Deep.DeepCutAuto
import Derived.Deep.CutBlock
namespace Go.Proofs.Ytdgmbopdommnhaa
set_option linter.unusedVariables false
set_option linter.unusedSimpArgs false
open Go.ChangeShapes Go.WideShapes Go.ChangeAt Go.RowKit

/-- Nodes as ints. -/
def zi (l : List Nat) : List Int := l.map fun n : Nat => (n : Int)
theorem zi_len (l : List Nat) : (zi l).length = l.length := by simp [zi]
theorem zi_take (l : List Nat) (t : Nat) : zi (l.take t) = (zi l).take t := by simp [zi, List.map_take]
theorem zi_drop (l : List Nat) (t : Nat) : zi (l.drop t) = (zi l).drop t := by simp [zi, List.map_drop]
theorem i64s_len (l : List Int) : (i64s l).length = l.length := by simp [i64s]
theorem zi_at {w : World} {S : Nat → Prop} {A : Option Addr} {l : List Nat} (h : Rds w S A (i64s (zi l))) {i : Nat} (hi : i < l.length) : ∃ ad, A = some ad ∧ w.cell? (ad.add i) = some (.int .i64 ((l[i] : Nat) : Int)) := by
  obtain ⟨ad, e, _, hc⟩ := h i (.int .i64 ((l[i] : Nat) : Int)) (by simp [i64s, zi, List.getElem?_eq_getElem hi])
  exact ⟨ad, e, hc⟩
/-- Those up to j, by weight. -/
def R.srt (ns : List Int) (k : Int) (s : Nat) (j : Nat) : List Nat := P.isort (R.lt k s) (R.here ns j)
theorem R.srt_yes {ns : List Int} {k : Int} {s j : Nat} (h : R.has ns j = true) : R.srt ns k s (j + 1) = (R.srt ns k s j).take (P.place (R.lt k s) j (R.srt ns k s j) (R.srt ns k s j).length) ++ [j] ++ (R.srt ns k s j).drop (P.place (R.lt k s) j (R.srt ns k s j) (R.srt ns k s j).length) := by
  unfold R.srt
  rw [R.here_yes h, isort_snoc]
  simp [P.ins]
theorem R.srt_no {ns : List Int} {k : Int} {s j : Nat} (h : R.has ns j = false) : R.srt ns k s (j + 1) = R.srt ns k s j := by
  unfold R.srt
  rw [R.here_no h]
theorem R.srt_len (ns : List Int) (k : Int) (s j : Nat) : (R.srt ns k s j).length ≤ j := by
  unfold R.srt
  rw [P.isort_len]
  exact R.here_len j
theorem R.srt_small {ns : List Int} {k : Int} {s j n : Nat} (h : n ∈ R.srt ns k s j) : n < j := (R.mem_here.1 ((P.isort_stb (R.ord k s) (R.here ns j)).mem (R.ord k s) h)).1
/-- A call answers these nodes, in a row of its own. -/
def OrdPost (l : List Nat) (w : World) (e : Ending) (w' : World) : Prop :=
  ∃ (A : Option Addr) (N c : Nat), e = .returned (.slice A N c) ∧ N = l.length ∧ Rds w' (fun b => w.heap.size ≤ b) A (i64s (zi l)) ∧ Below w.heap.size w w'

set_option maxRecDepth 100000 in
set_option maxHeartbeats 8000000 in
theorem rorder_any (S : Nat → Prop) (A : Option Addr) (n c : Nat) (ns : List Int) (k : Int) (s : Nat) (w : World) (hs : s < 18446744073709551616) (hn : ns.length = n) (hr : Rds w S A (i64s ns)) (hl : n ≤ 900000) :
    Calls Try.prog 12 #[.slice A n c, .int .i64 k, .int .u64 (s : Int)] w (OrdPost (R.all ns k s) w) := by
  have HN := Lib.hid hn
  have HR := Lib.hid hr
  have HWT := Lib.hid (fun (node : Nat) W => rweight_any (node : Int) k s W hs)
  have hall : R.all ns k s = R.srt ns k s 8 := rfl
  rw [hall]
  clear hn hr hall hs
  obtain ⟨i0, hi0, hz0, hz1, hz2⟩ := info_parts Try.rowIntK
  have HI := Lib.hid hi0
  have HZ := Lib.hid (And.intro hz0 (And.intro hz1 hz2))
  clear hi0 hz0 hz1 hz2
  go_enter Try.func12, Try.ntmps12
  go_wp2_with fail
  go_loopw [7, 8] (fun ov jv wr => ∃ (j : Nat) (Ao : Option Addr) (No co : Nat) (m : List Nat), jv = .int .i64 j ∧ j ≤ 8 ∧ ov = .slice Ao No co ∧ No ≤ j ∧ Hid (m.length = No ∧ m = R.srt ns k s j) ∧ wr.ownsRow w.heap.size 3 1 (.slice Ao No co) No (i64s (zi m)) ∧ Below w.heap.size w wr) (fun _ jv _ => 8 - (intOf jv).toNat)
  case atStart => exact ⟨0, none, 0, 0, [], rfl, by omega, rfl, by omega, Lib.hid ⟨rfl, rfl⟩, World.ownsRow_nil _ _ _ _, Below.refl _ _⟩
  case round =>
    obtain ⟨j, Ao, No, co, m, rfl, hj, rfl, hNj, HS, hO, hb⟩ := hrel
    by_cases hlt : j < 8
    · have hj8 : (j : Int) < 8 := by omega
      obtain ⟨w1, hw1⟩ : ∃ W, W = wr := ⟨_, rfl⟩
      rw [← hw1] at hO hb
      have HW1 := Lib.hid hw1
      clear hw1
      go_wp2_with fail
      go_loopw [9, 21] (fun bv iv wr => ∃ i : Nat, iv = .int .i64 i ∧ i ≤ n ∧ bv = .bool (decide ((j : Int) ∈ ns.take i)) ∧ w1 = wr) (fun _ iv _ => n - (intOf iv).toNat)
      case atStart => exact ⟨0, rfl, by omega, by simp, HW1.out⟩
      case round =>
        obtain ⟨i, rfl, hi, rfl, rfl⟩ := hrel
        by_cases hin : i < n
        · have hin' : i < ns.length := by rw [HN.out]; exact hin
          have hin2 : (i : Int) < (n : Int) := by omega
          obtain ⟨ad, rfl, _, hc⟩ := (HR.out.new hb) i (.int .i64 ns[i]) (by simp [i64s, List.getElem?_eq_getElem hin'])
          have HM : Hid (decide ((j : Int) ∈ ns.take (i + 1)) = (decide ((j : Int) ∈ ns.take i) || (ns[i] == (j : Int)))) := Lib.hid (by
            rw [List.take_succ_eq_append_getElem hin', Bool.eq_iff_iff]
            simp only [List.mem_append, List.mem_singleton, decide_eq_true_eq, Bool.or_eq_true, beq_iff_eq]
            constructor
            · rintro (h | h)
              · exact .inl h
              · exact .inr h.symm
            · rintro (h | h)
              · exact .inl h
              · exact .inr h.symm)
          generalize ns[i] = x at *
          generalize decide ((j : Int) ∈ ns.take i) = b at *
          cases b with
          | true =>
            go_wp2
            go_roundw
            case rel => exact ⟨i + 1, by go_num, by omega, by rw [HM.out]; rfl, by trivial⟩
            case measure => simp [intOf]; omega
          | false =>
            go_wp2
            go_roundw
            case rel => exact ⟨i + 1, by go_num, by omega, by rw [HM.out]; rfl, by trivial⟩
            case measure => simp [intOf]; omega
        · have hin2 : ¬ (i : Int) < (n : Int) := by omega
          obtain ⟨b, hbe⟩ : ∃ b, b = decide ((j : Int) ∈ ns.take i) := ⟨_, rfl⟩
          have HB : Hid (R.has ns j = b) := Lib.hid (by rw [hbe, List.take_of_length_le (by rw [HN.out]; omega)]; rfl)
          rw [← hbe]
          clear hbe
          cases b with
          | false =>
            have HS2 : Hid (m.length = No ∧ m = R.srt ns k s (j + 1)) := Lib.hid ⟨HS.out.1, by rw [R.srt_no HB.out]; exact HS.out.2⟩
            go_wp2
            go_roundw
            case rel => exact ⟨j + 1, Ao, No, co, m, by go_num, by omega, rfl, by omega, HS2, hO, hb⟩
            case measure => simp [intOf]; omega
          | true =>
            have HS2 : Hid (R.srt ns k s (j + 1) = m.take (P.place (R.lt k s) j m m.length) ++ [j] ++ m.drop (P.place (R.lt k s) j m m.length)) := Lib.hid (by rw [R.srt_yes HB.out, ← HS.out.2])
            have HWj := HWT.out j w1
            obtain ⟨q, hq⟩ : ∃ q, q = R.wgt k s j := ⟨_, rfl⟩
            have hq2 : X.weight (j : Int) k s = q := hq.symm
            rw [hq2] at HWj
            have HQ := Lib.hid hq
            have HWJ := Lib.hid HWj
            clear HWj hq2 hq HB
            go_wp2_with fail
            refine HWJ.out.mono ?_
            rintro e w2 ⟨rfl, hb2⟩
            have hO2 := own_newI hO hb2
            have hb02 := below_new hb hb2
            clear hO hb hb2 HWJ
            go_upto_block 4 with fail
            go_cut [13] (fun tv wx => ∃ t : Nat, tv = .int .i64 t ∧ t ≤ No ∧ Hid (P.place (R.lt k s) j m m.length = t) ∧ Below w2.heap.size w2 wx)
            case first =>
              go_wp2_with fail
              go_loopw [13] (fun tv wr => ∃ t : Nat, tv = .int .i64 t ∧ t ≤ No ∧ Hid (P.place (R.lt k s) j m m.length = P.place (R.lt k s) j m t) ∧ Below w2.heap.size w2 wr) (fun tv _ => (intOf tv).toNat)
              case atStart => exact ⟨No, rfl, by omega, Lib.hid (by rw [HS.out.1]), Below.refl _ _⟩
              case round =>
                obtain ⟨t, rfl, ht, HP, hbt⟩ := hrel
                by_cases ht0 : 0 < t
                · obtain ⟨t, rfl⟩ : ∃ z, t = z + 1 := ⟨t - 1, by omega⟩
                  have htl : t < m.length := by rw [HS.out.1]; omega
                  obtain ⟨am, rfl, hct⟩ := zi_at ((own_rds hO2).new hbt) htl
                  have HWt := HWT.out m[t] wr
                  have HLT : Hid (R.lt k s j m[t] = decide (R.wgt k s m[t] < q)) := Lib.hid (by rw [HQ.out]; rfl)
                  obtain ⟨y, hy⟩ : ∃ y, y = R.wgt k s m[t] := ⟨_, rfl⟩
                  have hy2 : X.weight ((m[t] : Nat) : Int) k s = y := hy.symm
                  rw [hy2] at HWt
                  rw [← hy] at HLT
                  clear hy hy2
                  have HPY : Hid (R.lt k s j m[t] = true → P.place (R.lt k s) j m (t + 1) = P.place (R.lt k s) j m t) := Lib.hid (place_yes htl)
                  have HPN : Hid (R.lt k s j m[t] = false → P.place (R.lt k s) j m (t + 1) = t + 1) := Lib.hid (place_no htl)
                  generalize R.lt k s j m[t] = lb at *
                  generalize ((m[t] : Nat) : Int) = mt at *
                  have HWX := Lib.hid HWt
                  clear HWt
                  have hgt : (0 : Int) < ((t + 1 : Nat) : Int) := by omega
                  have hgt2 : (0 : Int) < (t : Int) + 1 := by omega
                  have ek : IntKind.i64.wrap (((t + 1 : Nat) : Int) - 1) = (t : Int) := by rw [IntWalk.i64_in _ (by omega)]; omega
                  have ek3 : IntKind.i64.wrap ((t : Int) + 1 - 1) = (t : Int) := by rw [IntWalk.i64_in _ (by omega)]; omega
                  have ek4 : IntKind.i64.wrap (t : Int) = (t : Int) := IntWalk.i64_in _ (by omega)
                  have hpt : 0 ≤ (t : Int) ∧ (t : Int) < (No : Int) := by omega
                  have htt : ((t : Int)).toNat = t := by omega
                  go_wp2_with fail
                  refine HWX.out.mono ?_
                  rintro e w3 ⟨rfl, hb3⟩
                  have hbV := below_new hbt hb3
                  clear HWX hb3 hbt hct
                  by_cases hyq : y < q
                  · have hyq' : (y : Int) < (q : Int) := by omega
                    have HP2 : Hid (P.place (R.lt k s) j m m.length = P.place (R.lt k s) j m t) := Lib.hid (by rw [HP.out, HPY.out (by rw [HLT.out]; simpa using hyq)])
                    clear HP HPY HPN HLT
                    go_wp2
                    go_roundw
                    case rel => exact ⟨t, (by first | rfl | go_num), by omega, HP2, hbV⟩
                    case measure => simp [intOf]
                  · have hyq' : ¬ (y : Int) < (q : Int) := by omega
                    have HP2 : Hid (P.place (R.lt k s) j m m.length = t + 1) := Lib.hid (by rw [HP.out, HPN.out (by rw [HLT.out]; simpa using hyq)])
                    clear HP HPY HPN HLT
                    go_wp2_with fail
                    go_meet
                    exact ⟨t + 1, (by first | rfl | go_num), by omega, HP2, hbV⟩
                · obtain rfl : t = 0 := by omega
                  have HP2 : Hid (P.place (R.lt k s) j m m.length = 0) := Lib.hid (by rw [HP.out, place_zero])
                  go_wp2_with fail
                  go_meet
                  exact ⟨0, (by first | rfl | go_num), by omega, HP2, hbt⟩
            case rest =>
              obtain ⟨t, rfl, ht, HP, hbt⟩ := hcut
              have hOc := own_newI hO2 hbt
              have hbc := below_new hb02 hbt
              have hBc : w.heap.size ≤ wc.heap.size := hbc.size
              clear hO2 hb02 hbt HQ
              have hNc : No ≤ co := by
                obtain ⟨A0, c0, e0, hle, _⟩ := own_form hOc
                simp only [Value.slice.injEq] at e0
                rw [e0.2.2]
                exact hle
              obtain ⟨w8, hw8⟩ : ∃ W, wc.alloc (.cells #[] 3) = W := ⟨_, rfl⟩
              have hb8 : Below wc.heap.size wc w8 := by rw [← hw8]; exact b_alloc _ _
              have hs8 := hb8.size
              have hR8 : w8.ownsRow wc.heap.size 3 1 (.slice (some ⟨wc.heap.size, 0, none⟩) 0 0) 0 [] := by rw [← hw8]; exact World.ownsRow_lit wc #[] 0 (Nat.le_refl _) (by unfold maxLen; omega) rfl
              have hto := run_ito Ao No co t (Nat.le_trans ht hNc) w8
              have hto2 := run_atI hto
              have hrd8 : Rds w8 (fun _ => True) Ao (i64s (zi (m.take t))) := by
                have h1 := ((own_rds hOc).take t).new hb8
                rw [← List.map_take, ← zi_take] at h1
                exact h1.mono fun _ _ => trivial
              have hlk : (zi (m.take t)).length = t := by rw [zi_len, List.length_take, HS.out.1]; omega
              have HLM : Hid ((i64s (zi (m.take t))).length = t) := Lib.hid (by rw [i64s_len]; exact hlk)
              have HDR : Hid (Rds wc (fun b => b < wc.heap.size) (if co = t then Ao else Ao.map (·.add t)) (i64s (zi (m.drop t)))) := Lib.hid (by
                have h1 := Rds.cut (k := t) (c := co) (own_rds hOc) (by rw [i64s_len, zi_len, HS.out.1]; exact hNc)
                rw [← List.map_drop, ← zi_drop] at h1
                exact h1.old.mono fun b hb => hb.2)
              have HFR : Hid (∀ W, (Instr.slice 22 (.slice Ao No co) (some (.int .i64 (t : Int))) none none).run Try.prog W = .ok (.slice (if co = t then Ao else Ao.map (·.add t)) (No - t) (co - t)) W) := Lib.hid (fun W => run_ifrom Ao No co t ht W)
              obtain ⟨Ad, hAd⟩ : ∃ x, x = if co = t then Ao else Ao.map (·.add t) := ⟨_, rfl⟩
              obtain ⟨nd, hnd⟩ : ∃ x, x = No - t := ⟨_, rfl⟩
              obtain ⟨cd, hcd⟩ : ∃ x, x = co - t := ⟨_, rfl⟩
              rw [← hAd] at HDR HFR
              rw [← hnd, ← hcd] at HFR
              have HND : Hid ((zi (m.drop t)).length = nd) := Lib.hid (by rw [zi_len, List.length_drop, HS.out.1, hnd])
              have HNK : Hid (t + 1 + nd = No + 1) := Lib.hid (by omega)
              have HW8 := Lib.hid hw8
              have HLK := Lib.hid hlk
              have HNo : Hid (No ≤ 8) := Lib.hid (by omega)
              rw [← hw8] at hto hto2 hrd8 hR8 hs8
              clear hw8 hAd hnd hcd hlk hOc
              go_wp2_with (at_builtin; refine wpList_app _ rfl _ _ 22 rfl wc.heap.size 3 i0 _ 8 Try.underlying22 HI.out HZ.out.1 HZ.out.2.1 HZ.out.2.2 rfl _ 0 [] rfl hR8 (fun _ => True) Ao t co (i64s (zi (m.take t))) rfl HLM.out hrd8 (one_ints _ _) (by unfold maxLen; omega) (by omega) hs8 ?_)
              intro v9 w9 hr9 hg9 hv9
              rw [HW8.out] at hg9
              obtain ⟨A8, c8, rfl, _⟩ := own_form hr9
              have hr9 : w9.ownsRow wc.heap.size 3 1 (.slice A8 t c8) t (i64s (zi (m.take t))) := by simpa using hr9
              have hb89 : Below wc.heap.size wc w9 := hb8.grown hg9 hb8.size (fun k hk => by simp [Value.ownBlock] at hk; omega)
              have hB9 : wc.heap.size ≤ w9.heap.size := hb89.size
              have HDR9 : Hid (Rds w9 (fun b => b < wc.heap.size) Ad (i64s (zi (m.drop t)))) := Lib.hid (HDR.out.new hb89)
              try rw [Nat.zero_add]
              have HX0 : Hid (∀ f : Nat → Value, f 7 = .slice Ao No co → PutN w9 wc.heap.size (j : Int) (.slice A8 t c8) (.slice Ao No co) (zi (m.take t)) (zi (m.drop t)) (fun _ => false) f w9) := Lib.hid (fun f hf => ⟨⟨Below.refl _ _, Nat.le_refl _⟩, fun _ => hf, fun e => (by cases e), fun _ => (by rw [HLK.out]; exact hr9), fun e => (by cases e), fun e => (by cases e)⟩)
              have HB89 := Lib.hid hb89
              clear hto hto2 hrd8 hR8 hr9 hg9 hv9 hb8 hs8 hb89
              go_upto_region 17 with fail
              refine wp_famZ (size := 70) (D := [61, 62, 63, 64, 65, 66, 67, 68, 7]) [2, 3, 4, 7, 8] [63, 64, 68, 7] [(61, isV (.slice A8 t c8)), (62, isV (.int .i64 (j : Int))), (65, isV (.slice Ao No co)), (66, isV (.int .i64 (t : Int))), (67, isV (.slice Ad nd cd))] (PutN w9 wc.heap.size (j : Int) (.slice A8 t c8) (.slice Ao No co) (zi (m.take t)) (zi (m.drop t))) (PutN.up hB9) (by kernel_rfl) (by rfl) (by kernel_rfl) (HX0.out _ rfl) ?_ ?_
              · simp only [famAllZ]
                repeat' apply And.intro
                · rw [if_neg (by decide)]
                  intro f W hl
                  simp [Oper.looksAt, Op.operands, Call.operands, famAt, famOf, isV] at hl
                  simp [famWants, execOp, rho, go_sem, hl, famUpon, famOf, isV, Grows.refl]
                · rw [if_neg (by decide)]
                  intro f W hl
                  simp [Oper.looksAt, Op.operands, Call.operands, famAt, famOf, isV] at hl
                  simp [famWants, execOp, rho, go_sem, hl, famUpon, famOf, isV, Grows.refl]
                · rw [if_pos (by decide)]
                  intro L f W hi hcl hwt hX hl
                  simp [Oper.looksAt, Op.operands, Call.operands, famAt, famOf, isV] at hl
                  have h4 : L 3 = false := by
                    cases e : L 3 with
                    | false => rfl
                    | true => rw [hcl 3 2 (by kernel_rfl) e] at hi; cases hi
                  have h8 : L 7 = false := by
                    cases e : L 7 with
                    | false => rfl
                    | true => rw [hcl 7 3 (by kernel_rfl) e] at h4; cases h4
                  have hfin := hX.lit hB9 h4 h8
                  simp [famWants, execOp, rho, go_sem, hl, famUpon, famOf, isV]
                  exact hfin
                · rw [if_pos (by decide)]
                  intro L f W hi hcl hwt hX hl
                  simp [Oper.looksAt, Op.operands, Call.operands, famAt, famOf, isV] at hl
                  have h8 : L 7 = false := by
                    cases e : L 7 with
                    | false => rfl
                    | true => rw [hcl 7 3 (by kernel_rfl) e] at hi; cases hi
                  have h3 : L 2 = true := hwt 2 (by kernel_rfl)
                  obtain ⟨b, e53, v, W', hrun, hfin⟩ := hX.app hB9 h3 hi h8 (by rw [HLK.out]; omega)
                  refine ⟨fun _ => ?_, fun hh => ?_⟩
                  · simp only [execOp, resolve, invoke, builtin, rho, Sem.run_bind, Sem.run_pure, Result.andThen_ok, List.map_toArray, List.map_cons, List.map_nil, hl, e53, hrun, famUpon]
                    exact ⟨fun d hd => by cases hd; exact trivial, hfin⟩
                  · simp [famWants] at hh
                · rw [if_pos (by decide)]
                  intro L f W hi hcl hwt hX hl
                  simp [Oper.looksAt, Op.operands, Call.operands, famAt, famOf, isV] at hl
                  have e3 := hX.2.1 hi
                  simp [famWants, execOp, rho, go_sem, e3, famUpon, famOf, isV]
                  exact hX.mv
                · rw [if_neg (by decide)]
                  intro f W hl
                  simp [Oper.looksAt, Op.operands, Call.operands, famAt, famOf, isV] at hl
                  simp [famWants, execOp, rho, go_sem, hl, famUpon, famOf, isV, Grows.refl]
                · rw [if_neg (by decide)]
                  intro f W hl
                  simp [Oper.looksAt, Op.operands, Call.operands, famAt, famOf, isV] at hl
                  have h9 := run_atI (HFR.out W)
                  simp [famWants, execOp, rho, go_sem, hl, h9, famUpon, famOf, isV, Grows.refl]
                · rw [if_pos (by decide)]
                  intro L f W hi hcl hwt hX hl
                  simp [Oper.looksAt, Op.operands, Call.operands, famAt, famOf, isV] at hl
                  have h9 : L 8 = false := by
                    cases e : L 8 with
                    | false => rfl
                    | true => rw [hcl 8 7 (by kernel_rfl) e] at hi; cases hi
                  have h4 : L 3 = true := hwt 3 (by kernel_rfl)
                  obtain ⟨A2, c2, e54, v, W', hrun, hfin⟩ := hX.app2 hB9 h4 hi h9 HND.out (T := fun b => b < wc.heap.size) (Ah := Ad) (ch := cd) (HDR9.out.below hX.1.1 (fun b hb _ => hb)) (by rw [HLK.out, HND.out]; have := HNK.out; omega)
                  rw [HLK.out] at e54 hrun
                  refine ⟨fun _ => ?_, fun hh => ?_⟩
                  · simp only [execOp, resolve, invoke, builtin, rho, Sem.run_bind, Sem.run_pure, Result.andThen_ok, List.map_toArray, List.map_cons, List.map_nil, hl, e54, hrun, famUpon]
                    exact ⟨fun d hd => by cases hd; exact trivial, hfin⟩
                  · simp [famWants] at hh
                · rw [if_pos (by decide)]
                  intro L f W hi hcl hwt hX hl
                  simp [Oper.looksAt, Op.operands, Call.operands, famAt, famOf, isV] at hl
                  have h8 : L 7 = true := hwt 7 (by kernel_rfl)
                  have h4 : L 3 = true := hcl 7 3 (by kernel_rfl) h8
                  have h3 : L 2 = true := hcl 3 2 (by kernel_rfl) h4
                  have h5 : L 4 = true := hwt 4 (by kernel_rfl)
                  obtain ⟨A3, c3, e58, _⟩ := hX.2.2.2.2.2 h8
                  rw [HLK.out, HND.out] at e58
                  simp [famWants, execOp, rho, go_sem, e58, famUpon, famOf, isV]
                  exact hX.set h3 h4 h5 h8 e58
                · trivial
              · intro L' u W hL hX hu
                obtain ⟨q1, A3, c3, e3, q4⟩ := hX.fin (hL 7 (by decide)) (hL 8 (by decide))
                simp only [fill, Act.put, List.setIfInBounds_toArray, List.set_cons_zero, List.set_cons_succ, e3]
                refine wpList_nil ?_
                have hz : zi (m.take t) ++ [(j : Int)] ++ zi (m.drop t) = zi (R.srt ns k s (j + 1)) := by rw [HS2.out, HP.out]; simp [zi]
                rw [HLK.out, HND.out, hz] at q4
                rw [HLK.out, HND.out]
                have hbW : Below w.heap.size w W := (below_new hbc HB89.out).trans (q1.mono hBc)
                have HS3 : Hid ((R.srt ns k s (j + 1)).length = t + 1 + nd ∧ R.srt ns k s (j + 1) = R.srt ns k s (j + 1)) := Lib.hid ⟨by
                  have h1 := congrArg List.length hz
                  rw [List.length_append, List.length_append, HLK.out, HND.out, zi_len] at h1
                  simpa using h1.symm, rfl⟩
                clear hu hL hX HX0 e3 hz
                go_wp2
                go_roundw
                case rel => exact ⟨j + 1, A3, _, c3, _, by go_num, by omega, rfl, by have := HNK.out; omega, HS3, own_mono q4 hBc, hbW⟩
                case measure => simp [intOf]; omega
    · obtain rfl : j = 8 := by omega
      have HE : Hid (No = (R.srt ns k s 8).length ∧ m = R.srt ns k s 8) := Lib.hid ⟨by rw [← HS.out.2]; exact HS.out.1.symm, HS.out.2⟩
      have hj8 : ¬ ((8 : Nat) : Int) < 8 := by omega
      go_wp2
      go_ret
      exact ⟨Ao, No, co, rfl, HE.out.1, by rw [← HE.out.2]; exact (own_rds hO).mono fun b hb => hb.1, hb⟩
end Go.Proofs.Ytdgmbopdommnhaa
