/- The walk of BookNewer. -/
import Derived.Test.YtedcgfcmhaeldaaBkLaw2
import Derived.Test.YtedcgfcmhaeldaaEvCut
import Derived.Test.YtedcgfcmhaeldaaDotArgs
namespace Go.Proofs.Ytedcgfcmhaeldaa
set_option linter.unusedVariables false
set_option linter.unusedSimpArgs false
open Go.ChangeShapes Go.WideShapes Go.ChangeAt Go.RowKit

theorem fresh {b : B.Bk} (hb : B.Ok b) {K : D.Dot → Bool} {P j : Nat} (hj : j < ((B.news b K).take P).length) : B.plus K (((B.news b K).take P).take j) (B.dotOf ((B.news b K).take P)[j]) = false := by
  have hs : B.Srt ((B.news b K).take P) := List.Pairwise.sublist (List.take_sublist _ _) (B.srt_filter _ hb.srt)
  have h1 : ((B.news b K).take P)[j] ∈ B.news b K := List.mem_of_mem_take (List.getElem_mem hj)
  unfold B.plus
  rw [(B.mem_news.1 h1).2, Bool.false_or, Bool.eq_false_iff]
  intro h
  obtain ⟨e, he, hd⟩ := List.any_eq_true.1 h
  simp only [decide_eq_true_eq] at hd
  obtain ⟨i, hi, rfl⟩ := List.mem_iff_getElem.1 he
  simp only [List.length_take] at hi
  have hij : i < j := by omega
  have := List.pairwise_iff_getElem.1 hs i j (by omega) hj hij
  rw [List.getElem_take] at hd
  rw [hd, B.bef_irr] at this
  cases this
/-- A set in a variable. -/
def Kn (W : World) (gk : Nat) (T : D.Dot → Bool) : Prop := ∃ T' A c, (∀ x, D.may x = true → T' x = T x) ∧ Blo W gk 53 (scs (D.cU T') A (D.cM T').length c) ∧ DRd W (fun _ => True) A (D.cM T')
theorem Kn.new {W W' : World} {gk : Nat} {T : D.Dot → Bool} (h : Kn W gk T) (hb : Below W.heap.size W W') : Kn W' gk T := by
  obtain ⟨T', A, c, h1, h2, h3⟩ := h
  exact ⟨T', A, c, h1, h2.new hb, h3.new hb⟩
theorem Kn.congr {W : World} {gk : Nat} {T T2 : D.Dot → Bool} (h : Kn W gk T) (hT : ∀ x, D.may x = true → T x = T2 x) : Kn W gk T2 := by
  obtain ⟨T', A, c, h1, h2, h3⟩ := h
  exact ⟨T', A, c, fun x hx => (h1 x hx).trans (hT x hx), h2, h3⟩
theorem PB.other {w w' : World} {S : Nat → Prop} {g gk : Nat} {m : Option Nat} {b : B.Bk} {t : TypeId} {cs : Array Value} (k : PB w S g m b) (hK : Kpt w w' gk none) (hB : Blo w gk t cs) (h1 : 84 ≠ t) (h2 : 39 ≠ t) : PB w' S g m b := by
  obtain ⟨e1, T, e2, e3⟩ := k
  obtain ⟨A, c, hBg, _⟩ := e3.blk
  obtain ⟨f, hM, _⟩ := e3.map
  refine ⟨e1, T, e2, e3.keep fun x hl hx => hK.block x hl ?_ (by simp)⟩
  rcases hx with rfl | hx | hx
  · exact Blo.typeNe hBg hB h1
  · rintro rfl; exact hM.blo hB hx
  · exact hx.2.blo hB h2
/-- How far the pieces have come. -/
def NSt (w7 : World) (b : B.Bk) (T0 : D.Dot → Bool) (P gk k : Nat) (v : Value) (W : World) : Prop :=
  ∃ A N c got, v = .slice A N c ∧ Hid (N = got.length ∧ plain got = (B.news b T0).take (k * P)) ∧ EOwn W (fun x => w7.heap.size ≤ x) w7.heap.size (.slice A N c) got ∧ Kn W gk (B.known b T0 P k) ∧ Kpt w7 W gk none
theorem ERds.other {w w' : World} {S : Nat → Prop} {A : Option Addr} {l : List EvV} {gk : Nat} (h : ERds w S A l) (hK : Kpt w w' gk none) (hS : ∀ b, S b → b ≠ gk) : ERds w' S A l :=
  ⟨h.1.keep fun b hb hl => hK.block b hl (hS b hb) (by simp), fun e he => (h.2 e he).keep fun b hb hl => hK.block b hl (hS b hb) (by simp)⟩
theorem ERow.db {w : World} {B b : Nat} {v : Value} {l : List EvV} (h : ERow w B v l) (hd : DB w b) : some b ≠ v.ownBlock := by
  intro e
  rcases h.2 with ⟨q, _⟩ | ⟨k, cap, cur, q, _, hh, _⟩
  · rw [q] at e; cases e
  · rw [q] at e
    have : b = k := by simpa [Value.ownBlock] using e
    subst this
    exact hd.blo hh (by decide) rfl
theorem Kn.kept {w w' : World} {gk : Nat} {T : D.Dot → Bool} (h : Kn w gk T) (h1 : w'.heap[gk]? = w.heap[gk]?) (h2 : ∀ x, DB w x → w'.heap[x]? = w.heap[x]?) : Kn w' gk T := by
  obtain ⟨T', A, c, e1, e2, e3⟩ := h
  exact ⟨T', A, c, e1, e2.keep h1, e3.keep fun x _ hx => h2 x hx⟩
theorem plus_take {K : D.Dot → Bool} {lm : List EvV} {j : Nat} (hj : j < lm.length) (d : D.Dot) : B.plus K (plain (lm.take (j + 1))) d = (B.plus K (plain (lm.take j)) d || d == (lm[j].F 0, lm[j].F 1)) := by
  rw [plain_take hj, B.plus_app]
  congr 1
  rw [Bool.eq_iff_iff, beq_iff_eq]
  exact ⟨fun h => (of_decide_eq_true h).symm, fun h => decide_eq_true h.symm⟩
theorem join_zero (U : Nat → Int) (M : List D.Dot) (d : D.Dot) : D.join U M (fun _ => 0) [] d = D.has U M d := by
  unfold D.join
  rw [has_zero]
  rfl
theorem has_cl {T : D.Dot → Bool} (hT : ∀ d, T d = true → D.may d = true) (b : B.Bk) : B.news b (D.has (D.cU T) (D.cM T)) = B.news b T := by
  unfold B.news
  refine List.filter_congr fun x _ => ?_
  rw [D.cl_has]
  cases h : T (B.dotOf x) with
  | false => simp
  | true => rw [hT _ h]; rfl
theorem news_congr {b : B.Bk} (hb : B.Ok b) {T T2 : D.Dot → Bool} (h : ∀ d, D.may d = true → T d = T2 d) : B.news b T = B.news b T2 := by
  unfold B.news
  refine List.filter_congr fun x hx => ?_
  rw [h _ (hb.may _ (hb.seen x hx))]
theorem news_kn {b : B.Bk} (hb : B.Ok b) {T T2 : D.Dot → Bool} (h : ∀ d, D.may d = true → T d = T2 d) : B.news b (D.has (D.cU T) (D.cM T)) = B.news b T2 := by
  refine news_congr hb fun d hd => ?_
  rw [D.cl_has, hd, h d hd]
  rfl

set_option maxRecDepth 100000 in
set_option maxHeartbeats 16000000 in
theorem newer_main (A : Option Addr) (n c : Nat) (l : List EvV) (U : Nat → Int) (As : Option Addr) (ns cs : Nat) (Ms : List D.Dot) (z : Nat) (w : World) (hA : EvsIn w A n c l) (hns : Ms.length = ns) (hrs : Rds w (· < w.heap.size) As (dvs Ms)) (hz : z < 256) :
    Calls Try.prog 8 #[.slice A n c, sv U As ns cs, .int .u8 (z : Int)] w fun e w' => e = .returned (.bool true) ∧ Below w.heap.size w w' := by
  obtain ⟨hn, hnc, hcm, hr, hmk⟩ := hA
  have hnm : n ≤ maxLen := by omega
  obtain ⟨w0, hw0⟩ : ∃ W, w.alloc (.cells (scs U As ns cs) 26) = W := ⟨_, rfl⟩
  obtain ⟨gx, hgx⟩ : ∃ q, q = w.heap.size := ⟨_, rfl⟩
  have hb0 : Below w.heap.size w w0 := by rw [← hw0]; exact b_alloc _ _
  have hX0 : Blo w0 gx 26 (scs U As ns cs) := by rw [← hw0, hgx]; exact Blo.made _ _ _
  have HN := Lib.hid hn
  have HMK := Lib.hid hmk
  have HNS := Lib.hid hns
  have HW0 := Lib.hid hw0
  have HGX := Lib.hid hgx
  have hs0 := hb0.size
  clear hn hmk hnc hcm hns hw0 hgx
  by_cases h40 : 60 < n
  · have q40 : decide ((60 : Int) < (n : Int)) = true := by simp; omega
    clear h40
    go_enter Try.func8, Try.ntmps8
    go_wp2_with fail
    rw [HW0.out]
    refine (balive_any _).mono ?_
    rintro e w1 ⟨rfl, hb1⟩
    go_wp2
    go_ret
    exact ⟨rfl, below_new hb0 hb1⟩
  have q40 : decide ((60 : Int) < (n : Int)) = false := by simp; omega
  have hnb : n ≤ 1000000 := by omega
  clear h40
  go_enter Try.func8, Try.ntmps8
  go_wp2_with fail
  rw [HW0.out, ← HGX.out]
  refine (balive_any _).mono ?_
  rintro e w1 ⟨rfl, hb1⟩
  have hb01 := below_new hb0 hb1
  have hgr := great_any _ A n c l w1 HN.out (hr.new hb01) hnm
  go_wp2_with fail
  refine hgr.mono ?_
  rintro e w2 ⟨gt, rfl, hb2, hgt⟩
  have hb02 := below_new hb01 hb2
  clear hgr
  cases gt with
  | true =>
    clear hgt
    go_wp2
    go_ret
    exact ⟨rfl, hb02⟩
  | false =>
    have HBK : Hid (bulk l ≤ 3000) := Lib.hid (hgt rfl HMK.out)
    have hX2 := (hX0.new hb1).new hb2
    have x8 : w2.cell? ⟨gx, 8, none⟩ = some (.slice As ns cs) := by simpa using hX2.cell 8
    clear hgt hb2 HMK
    by_cases h1000 : 1000 < ns
    · have q1000 : decide ((1000 : Int) < (ns : Int)) = true := by simp; omega
      clear h1000
      go_wp2
      go_ret
      exact ⟨rfl, hb02⟩
    have q1000 : decide ((1000 : Int) < (ns : Int)) = false := by simp; omega
    have hnsb : ns ≤ 1000000 := by omega
    clear h1000
    go_wp2_with fail
    refine (bnew_bok hb02).mono ?_
    rintro e w3 ⟨rfl, hB3, hb3⟩
    obtain ⟨g, hg⟩ : ∃ q, q = w2.heap.size := ⟨_, rfl⟩
    rw [← hg] at hB3 ⊢
    have hX3 := hX2.new hb3
    have hgxg : gx ≠ g := by have := hX2.lt; omega
    clear hg hb3 hb02 x8 hX2 hX0
    go_wp2_with fail
    go_loopw [36] (fun iv wr => ∃ i m, iv = .int .i64 (i : Nat) ∧ i ≤ n ∧ Bok w wr g m (B.run B.new (plain (l.take i))) ∧ Blo wr gx 26 (scs U As ns cs)) (fun iv _ => n - (intOf iv).toNat)
    case atStart => exact ⟨0, none, rfl, by omega, hB3, hX3⟩
    case round =>
      obtain ⟨i, m, rfl, hi, hB, hX⟩ := hrel
      clear hB3 hX3
      by_cases hlt : i < n
      · have hlt' : i < l.length := by rw [HN.out]; exact hlt
        obtain ⟨ad, rfl, _, hrx, c0, c1, c2, c3, c4, c5, c6, c7, c8, c9, c10, c11, c12, c13⟩ := (hB.erds hr).cells hlt'
        obtain ⟨x, hx⟩ : ∃ x, x = l[i] := ⟨_, rfl⟩
        rw [← hx] at hrx c0 c1 c2 c3 c4 c5 c6 c7 c8 c9 c10 c11 c12 c13
        have hxl : x ∈ l := by rw [hx]; exact List.getElem_mem hlt'
        have HXX := Lib.hid hx
        obtain ⟨F, M, Ax, cx⟩ := x
        simp only at hrx c0 c1 c2 c3 c4 c5 c6 c7 c8 c9 c10 c11 c12 c13
        obtain ⟨q, hq⟩ : ∃ q, M.length = q := ⟨_, rfl⟩
        rw [hq] at c13
        have hqm : q ≤ maxLen := by rw [← hq]; exact len_max (bulk_max HBK.out hxl)
        have HQ := Lib.hid hq
        have HXL := Lib.hid hxl
        clear hq hx hxl
        obtain ⟨w5, hw5⟩ : ∃ W, wr.alloc (.cells (ecs F Ax q cx) 43) = W := ⟨_, rfl⟩
        have hb5 : Below wr.heap.size wr w5 := by rw [← hw5]; exact b_alloc _ _
        have HW5 := Lib.hid hw5
        clear hw5
        have hB5 := hB.new hb5
        have hX5 := hX.new hb5
        have hgl := hB.gl
        have hadd := badd_bok (fun b => b < w.heap.size) F Ax q cx M hB5 HQ.out (hrx.new hb5) (fun b hb => by omega) hqm
        have HRS := Lib.hid (run_take (b := B.new) hlt' HXX.out)
        go_wp2_with fail
        rw [HW5.out]
        refine hadd.mono ?_
        rintro e w6 ⟨rfl, ⟨m', hB6, _⟩, hK6⟩
        rw [HRS.out] at hB6
        have hX6 := hB5.pb.blo hK6 hX5 hgxg
        generalize B.addE (B.run B.new (plain (l.take i))) (F, M) = ra
        clear hadd c0 c1 c2 c3 c4 c5 c6 c7 c8 c9 c10 c11 c12 c13 hK6 hB5 hB hb5 hX hX5
        go_wp2
        go_roundw
        case rel => exact ⟨i + 1, m', by go_num, by omega, hB6, hX6⟩
        case measure => simp [intOf]; omega
      · obtain ⟨b, hb⟩ : ∃ b, b = B.run B.new (plain (l.take i)) := ⟨_, rfl⟩
        rw [← hb] at hB
        clear hb
        have hrw := hB.rds hrs
        obtain ⟨y0, y1, y2, y3, y4, y5, y6, y7, y8⟩ := set9 hX
        have hto := to_any _ U As ns cs Ms wr HNS.out hrw hnsb
        go_wp2_with fail
        refine hto.mono ?_
        rintro e w4 ⟨A4, c4, rfl, hC4, hb4⟩
        rw [HNS.out]
        have hB4 := hB.new hb4
        have hjo := djoin_any _ (fun _ => True) U A4 ns c4 Ms (fun _ => 0) none 0 0 [] w4 HNS.out hC4.rds hnsb rfl Rds.nil (by omega)
        obtain ⟨T0, hT0⟩ : ∃ T, T = D.join U Ms (fun _ => 0) [] := ⟨_, rfl⟩
        rw [← hT0] at hjo
        have HTM : Hid (∀ d, T0 d = true → D.may d = true) := Lib.hid (fun d hd => by rw [hT0, join_zero] at hd; exact D.has_may hd)
        obtain ⟨nk, hnk⟩ : ∃ k, (D.cM T0).length = k := ⟨_, rfl⟩
        have hnkl : nk ≤ 1000000 := by rw [← hnk]; exact Nat.le_trans (D.cM_len _) (by omega)
        obtain ⟨Uk, hUk⟩ : ∃ U, U = D.cU T0 := ⟨_, rfl⟩
        obtain ⟨Mk, hMk⟩ : ∃ M, M = D.cM T0 := ⟨_, rfl⟩
        rw [← hUk, ← hMk] at hjo
        rw [← hMk] at hnk
        have HUK := Lib.hid hUk
        have HMK' := Lib.hid hMk
        have HNK := Lib.hid hnk
        clear hto y0 y1 y2 y3 y4 y5 y6 y7 y8 hX hB hT0 hnk hUk hMk hC4
        go_wp2_with fail
        refine hjo.mono ?_
        rintro e w5 ⟨A5, c5, rfl, hD5, hb5⟩
        rw [HNK.out] at hD5 ⊢
        have hB5 := hB4.new hb5
        have hB5s := hB5.bl.size
        obtain ⟨w6, hw6⟩ : ∃ W, w5.alloc (.cells (scs Uk A5 nk c5) 53) = W := ⟨_, rfl⟩
        obtain ⟨gk, hgk⟩ : ∃ q, q = w5.heap.size := ⟨_, rfl⟩
        have hb6 : Below w5.heap.size w5 w6 := by rw [← hw6]; exact b_alloc _ _
        have hs6 := hb6.size
        have hK6 : Blo w6 gk 53 (scs Uk A5 nk c5) := by rw [← hw6, hgk]; exact Blo.made _ _ _
        have hB6 := hB5.new hb6
        have hD6 := hD5.new hb6
        have HW6 := Lib.hid hw6
        have HGK := Lib.hid hgk
        obtain ⟨y0, y1, y2, y3, y4, y5, y6, y7, y8⟩ := set9 hK6
        have hnw := bnewer_any Uk A5 nk c5 Mk 1000 w6 hB6.pb HNK.out hD6.rds hnkl
        have HX0 : Hid (B.newer b (D.has Uk Mk) 1000 = B.news b T0) := Lib.hid (by
          rw [HUK.out, HMK'.out]
          unfold B.newer
          rw [has_cl HTM.out]
          refine List.take_of_length_le ?_
          have h1 : (B.news b T0).length ≤ b.hold.length := List.length_filter_le _ _
          have h2 := hold_len hB6.pb.1
          have : (1000 : Int).toNat = 1000 := rfl
          omega)
        rw [HX0.out] at hnw
        rw [← hw6, hgk] at y0 y1 y2 y3 y4 y5 y6 y7 y8
        clear hjo hw6 hgk hB4 hB5 hD5 hb4 hb5
        go_wp2_with fail
        rw [HW6.out]
        refine hnw.mono ?_
        rintro e w7 ⟨A7, N7, c7, la, rfl, HN7, hl7, hO7, hb7⟩
        have hB7 := hB6.new hb7
        have hgk6 : gk < w6.heap.size := hK6.lt
        have hs7 := hb7.size
        have hra : ERds w7 (fun x => x ≠ gk) A7 la := hO7.erdsS.mono fun x hx => by
          have : w6.heap.size ≤ x := hx.elim id id
          omega
        have hN7 : N7 ≤ 1000000 := by have := hold_len hB6.pb.1; have h1 : (B.news b T0).length ≤ b.hold.length := List.length_filter_le _ _; rw [HN7.out, ← plain_len, hl7]; omega
        have HL7 := Lib.hid hl7
        have hK7 : Blo w7 gk 53 (scs Uk A5 nk c5) := hK6.new hb7
        have hKn : Kn w7 gk (B.known b T0 (z % 5 + 1) 0) := ⟨T0, A5, c5, fun x _ => rfl, by rw [← HUK.out, ← HMK'.out, HNK.out]; exact hK7, by rw [← HMK'.out]; exact (hD6.new hb7).drd.mono fun _ _ => trivial⟩
        obtain ⟨pp, hpp, hp5⟩ : ∃ pp : Nat, ((z : Int) % 5) = (pp : Int) ∧ pp = z % 5 := ⟨z % 5, by simp, rfl⟩
        rw [← hp5] at hKn
        have hpb : pp < 5 := by rw [hp5]; omega
        have HOK := Lib.hid hB7.pb.1
        have HGKW : Hid (w.heap.size ≤ gk) := Lib.hid (by have := HGK.out; have := hB5s; omega)
        have hbl7 := hB7.bl
        clear hnw y0 y1 y2 y3 y4 y5 y6 y7 y8 hB6 hD6 hO7 hl7 hp5 hb6 hK6
        rw [← HGK.out]
        have hKp7 : Kpt w7 w7 gk none := Kpt.of (Below.refl _ _)
        have hP7 := hB7.pb
        clear hB7
        go_wp2_with fail
        go_loopw [12, 54] (fun gv iv wr => ∃ k : Nat, iv = .int .i64 k ∧ k ≤ N7 + 1 ∧ NSt w7 b T0 (pp + 1) gk k gv wr) (fun _ iv _ => N7 + 1 - (intOf iv).toNat)
        case atStart => exact ⟨0, rfl, by omega, none, 0, 0, [], rfl, Lib.hid ⟨rfl, by simp [plain]⟩, EOwn.nil _ _ _, hKn, hKp7⟩
        case round =>
          obtain ⟨k, rfl, hk, Ag, Ng, cg, got, rfl, HG, hOg, ⟨T', A', c', hT', hBk, hRk⟩, hKp⟩ := hrel
          clear hKn hKp7
          by_cases hlt : k < N7 + 1
          · have hPr : PB wr (fun _ => True) g m b := hP7.other hKp hK7 (by decide) (by decide)
            obtain ⟨n', hn'⟩ : ∃ q, (D.cM T').length = q := ⟨_, rfl⟩
            have hn'l : n' ≤ 1000000 := by rw [← hn']; exact Nat.le_trans (D.cM_len _) (by omega)
            have hnw := bnewer_any (D.cU T') A' n' c' (D.cM T') ((pp : Int) + 1) wr hPr hn' hRk.rds hn'l
            have e0 : B.newer b (D.has (D.cU T') (D.cM T')) ((pp : Int) + 1) = (B.news b (B.known b T0 (pp + 1) k)).take (pp + 1) := by
              unfold B.newer
              rw [news_kn HOK.out hT']
              rfl
            rw [e0] at hnw
            rw [hn'] at hBk
            have hKn : Kn wr gk (B.known b T0 (pp + 1) k) := ⟨T', A', c', hT', by rw [hn']; exact hBk, hRk⟩
            obtain ⟨U', hU'⟩ : ∃ U, U = D.cU T' := ⟨_, rfl⟩
            rw [← hU'] at hnw hBk
            obtain ⟨y0, y1, y2, y3, y4, y5, y6, y7, y8⟩ := set9 hBk
            obtain ⟨X, hX⟩ : ∃ X, X = (B.news b (B.known b T0 (pp + 1) k)).take (pp + 1) := ⟨_, rfl⟩
            rw [← hX] at hnw
            have hgk7 : gk < w7.heap.size := hK7.lt
            have hsr := hKp.size
            have HXX := Lib.hid hX
            clear e0 hn' hU' hT' hRk hX
            go_wp2_with fail
            refine hnw.mono ?_
            rintro e w8 ⟨Am, Nm, cm, lm, rfl, HNm, hlm, hOm, hb8⟩
            have hs8 := hb8.size
            obtain ⟨zr, hzr⟩ : ∃ q, q = wr.heap.size := ⟨_, rfl⟩
            have hEm : ERds w8 (fun x => zr ≤ x) Am lm := hOm.erdsS.mono fun x hx => by have := hx.elim id id; omega
            have HGL : Hid (∀ x, (Value.slice Ag Ng cg).ownBlock = some x → x < zr) := Lib.hid (fun x hx => by have := (hOg.row.lt x hx).2; omega)
            have hgkz : gk < zr := by omega
            have hz7 : w7.heap.size ≤ zr := by omega
            have hO8 := hOg.new hb8
            have hK8 := hKn.new hb8
            have hKp8 : Kpt w7 w8 gk none := hKp.trans (Kpt.of (g := gk) (m := none) hb8) (.inl rfl)
            have hNm1 : Nm ≤ pp + 1 := by rw [HNm.out, ← plain_len, hlm, HXX.out, List.length_take]; omega
            have hNm2 : ¬ ((pp : Int) + 1 < (Nm : Int)) := by omega
            have hNmb : Nm ≤ 1000000 := by omega
            have HLM := Lib.hid hlm
            have hK0 : Kn w8 gk (B.plus (B.known b T0 (pp + 1) k) (plain (lm.take 0))) := hK8.congr fun x _ => by simp [B.plus, plain]
            have hKp0 : Kpt w8 w8 gk none := Kpt.of (Below.refl _ _)
            have hgk8 : gk < w8.heap.size := by omega
            clear hnw y0 y1 y2 y3 y4 y5 y6 y7 y8 hOm hlm hOg hKp hKn hK8 hBk hb8 hNm1 hPr hzr hsr hs8
            go_wp2_with fail
            clear hpp
            go_loopw [72] (fun iv ws => ∃ j : Nat, iv = .int .i64 j ∧ j ≤ Nm ∧ Kn ws gk (B.plus (B.known b T0 (pp + 1) k) (plain (lm.take j))) ∧ Kpt w8 ws gk none) (fun iv _ => Nm - (intOf iv).toNat)
            case atStart => exact ⟨0, rfl, by omega, hK0, hKp0⟩
            case round =>
              obtain ⟨j, rfl, hj, ⟨T5, A5', c5', hT5, hB5, hR5⟩, hKj⟩ := hrel
              clear hK0 hKp0
              by_cases hltj : j < Nm
              · have hlt' : j < lm.length := by rw [← HNm.out]; exact hltj
                have HPT := Lib.hid (fun d => plus_take (K := B.known b T0 (pp + 1) k) hlt' d)
                have hjX : j < X.length := by rw [← HLM.out, plain_len]; exact hlt'
                have HFR : Hid (B.plus (B.known b T0 (pp + 1) k) (plain (lm.take j)) (lm[j].F 0, lm[j].F 1) = false ∧ D.may (lm[j].F 0, lm[j].F 1) = true) := Lib.hid (by
                  have hx : (lm[j].F, lm[j].M) ∈ X := by rw [← HLM.out]; exact plain_mem hlt'
                  refine ⟨?_, ?_⟩
                  · have h1 := fresh HOK.out (K := B.known b T0 (pp + 1) k) (P := pp + 1) (j := j) (by rw [← HXX.out]; exact hjX)
                    have hjT : j < ((B.news b (B.known b T0 (pp + 1) k)).take (pp + 1)).length := by rw [← HXX.out]; exact hjX
                    have h2 : ((B.news b (B.known b T0 (pp + 1) k)).take (pp + 1)).take j = plain (lm.take j) := by rw [← HXX.out, ← HLM.out]; simp [plain, List.map_take]
                    have h3 : ((B.news b (B.known b T0 (pp + 1) k)).take (pp + 1))[j]'(by rw [← HXX.out]; exact hjX) = (lm[j].F, lm[j].M) := by
                      have : (plain lm)[j]? = ((B.news b (B.known b T0 (pp + 1) k)).take (pp + 1))[j]? := by rw [HLM.out, HXX.out]
                      rw [List.getElem?_eq_getElem hjT] at this
                      simpa [plain, hlt'] using this.symm
                    rw [h2, h3] at h1
                    exact h1
                  · rw [HXX.out] at hx
                    have h1 := (B.mem_news.1 (List.mem_of_mem_take hx)).1
                    exact HOK.out.may _ (HOK.out.seen _ h1))
                obtain ⟨ad, rfl, _, hrx, c0, c1, c2, c3, c4, c5, c6, c7, c8, c9, c10, c11, c12, c13⟩ := (hEm.other hKj (fun x hx => by omega)).cells hlt'
                obtain ⟨x, hx⟩ : ∃ x, x = lm[j] := ⟨_, rfl⟩
                rw [← hx] at hrx c0 c1 c2 c3 c4 c5 c6 c7 c8 c9 c10 c11 c12 c13
                have hxl : x ∈ lm := by rw [hx]; exact List.getElem_mem hlt'
                have HYY := Lib.hid hx
                obtain ⟨F, M, Ax, cx⟩ := x
                simp only at hrx c0 c1 c2 c3 c4 c5 c6 c7 c8 c9 c10 c11 c12 c13
                obtain ⟨q, hq⟩ : ∃ q, M.length = q := ⟨_, rfl⟩
                rw [hq] at c13
                have HXL := Lib.hid hxl
                clear hq hx hxl hrx
                obtain ⟨w9, hw5⟩ : ∃ W, wr.alloc (.cells (ecs F Ax q cx) 43) = W := ⟨_, rfl⟩
                have hb5 : Below wr.heap.size wr w9 := by rw [← hw5]; exact b_alloc _ _
                have HW5 := Lib.hid hw5
                clear hw5
                rw [← HYY.out] at HFR HPT
                simp only at HFR HPT
                obtain ⟨n5, hn5⟩ : ∃ q, (D.cM T5).length = q := ⟨_, rfl⟩
                have hn5l : n5 ≤ 1000000 := by rw [← hn5]; exact Nat.le_trans (D.cM_len _) (by omega)
                rw [hn5] at hB5
                have hB9 := hB5.new hb5
                have hR9 := hR5.new hb5
                have hK9 : Kpt w8 w9 gk none := hKj.trans (Kpt.of (g := gk) (m := none) hb5) (.inl rfl)
                obtain ⟨T6, a1, a2, a3⟩ := D.add_step T5 (F 0, F 1)
                have hz0 : (D.add (D.cU T5) (D.cM T5) (F 0, F 1)).2.2 = 0 := by
                  unfold D.add
                  rw [if_neg (by rw [HFR.out.2]; decide), if_neg (by rw [D.cl_has, HFR.out.2, hT5 _ HFR.out.2, HFR.out.1]; decide)]
                have hadd := dadd_any _ (D.cU T5) A5' n5 c5' (D.cM T5) (F 0) (F 1) w9 hn5 hR9.rds hn5l
                unfold SetPost2 at hadd
                rw [hz0, (a1 hz0).1, (a1 hz0).2] at hadd
                have HT6 : Hid (∀ x, D.may x = true → T6 x = B.plus (B.known b T0 (pp + 1) k) (plain (lm.take (j + 1))) x) := Lib.hid (fun x hx => by rw [a3 x hx, hT5 x hx, HPT.out])
                obtain ⟨U5, hU5⟩ : ∃ U, U = D.cU T5 := ⟨_, rfl⟩
                rw [← hU5] at hadd hB9
                obtain ⟨n6, hn6⟩ : ∃ q, q = (D.cM T6).length := ⟨_, rfl⟩
                rw [← hn6] at hadd
                obtain ⟨U6, hU6⟩ : ∃ U, U = D.cU T6 := ⟨_, rfl⟩
                rw [← hU6] at hadd
                have HN6 := Lib.hid hn6
                have HU6 := Lib.hid hU6
                have hgk9 := hB9.lt
                obtain ⟨y0, y1, y2, y3, y4, y5, y6, y7, y8⟩ := set9 hB9
                rw [← HW5.out] at y0 y1 y2 y3 y4 y5 y6 y7 y8
                clear a1 a2 a3 hz0 hn5 hU5 hn6 hU6 hT5 hR5 hB5 HFR HPT hb5 hKj
                go_wp2_with fail
                rw [HW5.out]
                refine hadd.mono ?_
                rintro e w10 ⟨A6, cc6, rfl, hD10, hb10⟩
                have hB10 := hB9.new hb10
                have hK10 : Kpt w8 w10 gk none := hK9.trans (Kpt.of (g := gk) (m := none) hb10) (.inl rfl)
                obtain ⟨w11, hw11⟩ : ∃ W, w10.alloc (.cells (scs U6 A6 n6 cc6) 53) = W := ⟨_, rfl⟩
                obtain ⟨gy, hgy⟩ : ∃ q, q = w10.heap.size := ⟨_, rfl⟩
                have hb11 : Below w10.heap.size w10 w11 := by rw [← hw11]; exact b_alloc _ _
                have hY11 : Blo w11 gy 53 (scs U6 A6 n6 cc6) := by rw [← hw11, hgy]; exact Blo.made _ _ _
                have hB11 := hB10.new hb11
                have hD11 := hD10.new hb11
                have hK11 : Kpt w8 w11 gk none := hK10.trans (Kpt.of (g := gk) (m := none) hb11) (.inl rfl)
                have HW11 := Lib.hid hw11
                have HGY := Lib.hid hgy
                clear hadd y0 y1 y2 y3 y4 y5 y6 y7 y8 hw11 hgy hB9 hR9 hK9 hB10 hD10 hK10 hb10
                obtain ⟨y0, y1, y2, y3, y4, y5, y6, y7, y8⟩ := set9 hY11
                rw [← HW11.out, HGY.out] at y0 y1 y2 y3 y4 y5 y6 y7 y8
                rw [← HW11.out] at hB11
                go_wp2_with (refine wpList_setv _ rfl 53 _ _ rfl Try.sizeSet gk _ rfl U6 A6 n6 cc6 rfl hB11 rfl ?_)
                intro w12 hB12 hg12
                rw [HW11.out] at hB11 hg12
                have hD12 : DRd w12 (fun _ => True) A6 (D.cM T6) := (hD11.drd.mono fun _ _ => trivial).keep fun x _ hx => hg12.block x hx.lt (fun e => hx.blo hB11 (by decide) (by injection e))
                have hK12 : Kpt w8 w12 gk none := hK11.trans (Kpt.ofG (g := gk) (m := none) hg12 (.inl rfl)) (.inl rfl)
                have hKn12 : Kn w12 gk (B.plus (B.known b T0 (pp + 1) k) (plain (lm.take (j + 1)))) := ⟨T6, A6, cc6, HT6.out, by rw [← HU6.out, ← HN6.out]; exact hB12, hD12⟩
                clear y0 y1 y2 y3 y4 y5 y6 y7 y8 hB11 hD11 hK11 hb11 hY11 hg12 c0 c1 c2 c3 c4 c5 c6 c7 c8 c9 c10 c11 c12 c13
                go_wp2
                go_roundw
                case rel => exact ⟨j + 1, by go_num, by omega, hKn12, hK12⟩
                case measure => simp [intOf]; omega
              · have hfull : lm.take j = lm := List.take_of_length_le (by rw [← HNm.out]; omega)
                rw [hfull, HLM.out, HXX.out] at hT5
                have hKn : Kn wr gk (B.known b T0 (pp + 1) (k + 1)) := ⟨T5, A5', c5', hT5, hB5, hR5⟩
                have hOj : EOwn wr (fun x => w7.heap.size ≤ x) w7.heap.size (.slice Ag Ng cg) got := hO8.keep fun x hx hl => hKj.block x hl (by have := hx.elim id id; omega) (by simp)
                have hEj := hEm.other hKj (fun x hx => by omega)
                have hKp9 : Kpt w7 wr gk none := hKp8.trans hKj (.inl rfl)
                have hsz9 := hKp9.size
                have hglen : got.length ≤ 900000 := by
                  have h1 := HG.out.2
                  rw [← plain_len, h1]
                  have h2 : (B.news b T0).length ≤ b.hold.length := List.length_filter_le _ _
                  have h3 := hold_len HOK.out
                  simp
                  omega
                have hlens : got.length + Nm ≤ 1000000 := by omega
                have HGO : Hid (plain (got ++ lm) = (B.news b T0).take ((k + 1) * (pp + 1))) := Lib.hid (by rw [plain_app, HG.out.2, HLM.out, HXX.out]; exact B.got_more HOK.out T0 (pp + 1) k)
                clear hfull hT5 hB5 hR5 hO8 hEm hKp8 hglen
                go_wp2_with (at_builtin; refine wpList_eapp' _ rfl _ _ rfl w7.heap.size (.slice Ag Ng cg) got rfl hOj.row _ Am Nm cm lm rfl HNm.out.symm hEj.1 hlens hsz9 ?_)
                intro v13 w13 hr13 hg13 hv13
                have hO13 := hOj.app hr13 hg13 hv13 (fun e he => (hEj.2 e he).mono fun x hx => ⟨by omega, fun e' => by
                  have := (hOj.row.lt x e'.symm).2
                  have := HGL.out x e'.symm
                  omega⟩)
                have hKn13 : Kn w13 gk (B.known b T0 (pp + 1) (k + 1)) := by
                  obtain ⟨T', A', c', e1, e2, e3⟩ := hKn
                  have h1 := hg13.block gk e2.lt (fun e => hOj.row.blo e2 (by decide) e.symm)
                  exact ⟨T', A', c', e1, e2.keep h1, e3.keep fun x _ hx => hg13.block x hx.lt (hOj.row.db hx)⟩
                have hKp13 : Kpt w7 w13 gk none := ⟨hg13.os.trans hKp9.os, hg13.tape.trans hKp9.tape, hg13.output.trans hKp9.output, Nat.le_trans hKp9.size hg13.size, fun i hi h1 h2 => by
                  rw [hg13.block i (by omega) (fun e => by have := (hOj.row.lt i e.symm).1; omega), hKp9.block i hi h1 h2]⟩
                obtain ⟨A13, c13, rfl, _⟩ := hr13.form
                obtain ⟨N13, hN13⟩ : ∃ q, q = (got ++ lm).length := ⟨_, rfl⟩
                rw [← hN13] at hO13 ⊢
                have HG13 : Hid (N13 = (got ++ lm).length ∧ plain (got ++ lm) = (B.news b T0).take ((k + 1) * (pp + 1))) := Lib.hid ⟨hN13, HGO.out⟩
                clear hN13 hr13 hg13 hv13 hOj hEj hKn hKp9 HG HGL
                go_wp2
                go_roundw
                case rel => exact ⟨k + 1, by go_num, by omega, A13, N13, c13, _, rfl, HG13, hO13, hKn13, hKp13⟩
                case measure => simp [intOf]; omega
          · have hk1 : k = N7 + 1 := by omega
            have hpg : plain got = B.news b T0 := by
              rw [HG.out.2, hk1]
              exact B.got_all _ (by omega) (by rw [← HL7.out, plain_len, ← HN7.out]; omega)
            have hNN : Ng = N7 := by rw [HG.out.1, HN7.out, ← plain_len, ← plain_len, hpg, HL7.out]
            have hEa : ERds wr (fun x => x ≠ gk) A7 la := hra.other hKp (fun x hx => hx)
            have hbl : Below w.heap.size w wr := hbl7.trans ⟨hKp.os, hKp.tape, hKp.output, hKp.size, fun i hi => hKp.block i (by have := hbl7.size; omega) (by have := HGKW.out; omega) (by simp)⟩
            have hall := eall_yes _ _ Ag A7 Ng cg c7 got la wr HG.out.1.symm (alike_plain (hpg.trans HL7.out.symm)) hOg.erds hEa (by rw [hNN]; unfold maxLen; omega) (hold_short HOK.out (fun x hx => by rw [hpg] at hx; exact (B.mem_news.1 hx).1))
            rw [hNN] at hall
            rw [hNN]
            clear hpg hNN hEa hk1 hOg hKp hBk hRk hT'
            go_wp2_with fail
            refine hall.mono ?_
            rintro e w9 ⟨rfl, hb9⟩
            clear hall
            go_wp2
            go_ret
            exact ⟨rfl, below_new hbl hb9⟩
end Go.Proofs.Ytedcgfcmhaeldaa
