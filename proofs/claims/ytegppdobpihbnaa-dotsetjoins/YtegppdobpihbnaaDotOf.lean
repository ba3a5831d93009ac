/- Layer 6: the document's Of. -/
import Derived.Test.YtegppdobpihbnaaDotFace
import Derived.Test.YtegppdobpihbnaaDotMath2
namespace Go.Proofs.Ytegppdobpihbnaa
set_option linter.unusedVariables false
set_option linter.unusedSimpArgs false
open Go.ChangeShapes Go.WideShapes Go.ChangeAt Go.RowKit

theorem D.pM_low {S : D.Dot → Bool} {n : Nat} : ∀ i : Nat, i ≤ D.gap S n → D.pM S (n * 96 + i) = D.pM S (n * 96)
  | 0, _ => rfl
  | i + 1, h => by
    have hg := D.gap_le S n
    have hi : i < 96 := by omega
    rw [← D.pM_low i (by omega)]
    show D.pM S (n * 96 + i + 1) = _
    unfold D.pM
    rw [D.pre_yes (by rw [D.dt_at n i hi]; exact D.gap_all h), D.dt_at n i hi, List.filter_append]
    have : D.far S ((n : Int), (i : Int) + 1) = false := by simp [D.far]; omega
    simp [this]
theorem D.pM_in {S : D.Dot → Bool} {n i : Nat} (hi : i < 96) (hg : D.gap S n ≤ i) (h : S ((n : Int), (i : Int) + 1) = true) : D.pM S (n * 96 + i + 1) = D.pM S (n * 96 + i) ++ [((n : Int), (i : Int) + 1)] := by
  unfold D.pM
  rw [D.pre_yes (by rw [D.dt_at n i hi]; exact h), D.dt_at n i hi, List.filter_append]
  have : D.far S ((n : Int), (i : Int) + 1) = true := by simp [D.far]; omega
  simp [this]

/-- The first k nodes' Upto. -/
def upTo (S : D.Dot → Bool) (k : Nat) : Nat → Int := fun j => if j < k then D.cU S j else 0
theorem upTo_zero (S : D.Dot → Bool) : upTo S 0 = fun _ => 0 := by funext j; simp [upTo]
theorem upTo_step (S : D.Dot → Bool) (k : Nat) : upd (upTo S k) k (D.gap S k : Int) = upTo S (k + 1) := by
  funext j
  unfold upd upTo
  by_cases h : j = k
  · subst h; simp [D.cU]
  · rw [if_neg h]
    by_cases h1 : j < k
    · rw [if_pos h1, if_pos (by omega)]
    · rw [if_neg h1, if_neg (by omega)]

/-- The document's table of dots, at block g. -/
def Tab (w : World) (g : Nat) (H : D.Dot → Bool) : Prop := ∃ cs : Array Value, Blo w g 101 cs ∧ cs.size = 784 ∧ ∀ n s : Nat, n < 8 → s < 98 → cs[n * 98 + s]? = some (.bool (H ((n : Int), (s : Int))))
theorem Tab.keep {w w' : World} {g : Nat} {H : D.Dot → Bool} (h : Tab w g H) (hk : w'.heap[g]? = w.heap[g]?) : Tab w' g H := by obtain ⟨cs, h1, h2⟩ := h; exact ⟨cs, h1.keep hk, h2⟩
theorem Tab.lt {w : World} {g : Nat} {H : D.Dot → Bool} (h : Tab w g H) : g < w.heap.size := by obtain ⟨cs, h1, h2⟩ := h; exact h1.lt
theorem Tab.new {w w' : World} {g : Nat} {H : D.Dot → Bool} (h : Tab w g H) (hb : Below w.heap.size w w') : Tab w' g H := h.keep (hb.block g h.lt)
theorem Tab.cell {w : World} {g : Nat} {H : D.Dot → Bool} (h : Tab w g H) {n s : Nat} (hn : n < 8) (hs : s < 98) : w.cell? ⟨g, n * 98 + s, none⟩ = some (.bool (H ((n : Int), (s : Int)))) ∧ w.frozen? ⟨g, n * 98 + s, none⟩ = false := by
  obtain ⟨cs, h1, _, h2⟩ := h
  exact ⟨(h1.cell _).trans (h2 n s hn hs), h1.frozen _⟩
theorem Tab.put {w : World} {g : Nat} {H H' : D.Dot → Bool} (h : Tab w g H) {n s : Nat} (hn : n < 8) (hs : s < 98) (hH : ∀ m t : Nat, m < 8 → t < 98 → H' ((m : Int), (t : Int)) = if m = n ∧ t = s then true else H ((m : Int), (t : Int))) : Tab (w.setCell ⟨g, n * 98 + s, none⟩ (.bool true)) g H' := by
  obtain ⟨cs, h1, h3, h2⟩ := h
  refine ⟨_, h1.put _ _, by simpa using h3, fun m t hm ht => ?_⟩
  rw [Array.getElem?_setIfInBounds, hH m t hm ht]
  by_cases e : m = n ∧ t = s
  · obtain ⟨rfl, rfl⟩ := e
    rw [if_pos rfl, if_pos (by omega), if_pos ⟨rfl, rfl⟩]
  · rw [if_neg (by omega), if_neg e]
    exact h2 m t hm ht
theorem Try.zeroTab : Try.zeroCells101 = Array.replicate 784 (.bool false) := by kernel_rfl

/-- The dots that may be, among the first i. -/
def seen (L : List D.Dot) (i : Nat) (d : D.Dot) : Bool := D.may d && (L.take i).contains d
theorem seen_skip {L : List D.Dot} {i : Nat} (hi : i < L.length) (h : D.may L[i] = false) : seen L (i + 1) = seen L i := by
  funext d
  unfold seen
  rw [List.take_succ_eq_append_getElem hi, Bool.eq_iff_iff]
  simp only [Bool.and_eq_true, List.contains_iff_mem, List.mem_append, List.mem_singleton]
  constructor
  · rintro ⟨h1, h2 | h2⟩
    · exact ⟨h1, h2⟩
    · rw [h2, h] at h1; cases h1
  · exact fun h => ⟨h.1, .inl h.2⟩
theorem seen_more {L : List D.Dot} {i n s : Nat} (hi : i < L.length) (h : D.may L[i] = true) (he : L[i] = ((n : Int), (s : Int))) : ∀ m t : Nat, m < 8 → t < 98 → seen L (i + 1) ((m : Int), (t : Int)) = if m = n ∧ t = s then true else seen L i ((m : Int), (t : Int)) := by
  intro m t _ _
  unfold seen
  rw [List.take_succ_eq_append_getElem hi]
  by_cases e : m = n ∧ t = s
  · obtain ⟨rfl, rfl⟩ := e
    rw [if_pos ⟨rfl, rfl⟩, he]
    rw [he] at h
    simp [h]
  · rw [if_neg e, he, Bool.eq_iff_iff]
    simp only [Bool.and_eq_true, List.contains_iff_mem, List.mem_append, List.mem_singleton]
    constructor
    · rintro ⟨h1, h2 | h2⟩
      · exact ⟨h1, h2⟩
      · simp at h2; exact absurd h2 (by omega)
    · exact fun h => ⟨h.1, .inl h.2⟩

/-- What Of gathers, at block r: rows from B on. -/
def Gat (w : World) (B r : Nat) (U : Nat → Int) (M : List D.Dot) : Prop := B ≤ r ∧ ∃ A c, Blo w r 35 (scs U A M.length c) ∧ DRow w B (.slice A M.length c) M

theorem Gat.keep {w w' : World} {B r : Nat} {U : Nat → Int} {M : List D.Dot} (h : Gat w B r U M) (hk : ∀ b, B ≤ b → b < w.heap.size → w'.heap[b]? = w.heap[b]?) : Gat w' B r U M := by
  obtain ⟨h1, A, c, h2, h3⟩ := h
  exact ⟨h1, A, c, h2.keep (hk r h1 h2.lt), h3.keep fun b hb hl => hk b (h3.lt b hb).1 hl⟩
/-- An Upto told. -/
theorem Gat.up {w : World} {B r : Nat} {U : Nat → Int} {M : List D.Dot} (h : Gat w B r U M) {k : Nat} (hk : k < 8) (x : Int) : Gat (w.setCell ⟨r, k, none⟩ (.int .i64 x)) B r (upd U k x) M := by
  obtain ⟨h1, A, c, h2, h3⟩ := h
  have hne := h3.blo h2 (by decide)
  refine ⟨h1, A, c, ?_, h3.keep fun b hb _ => Below.heap_setCell _ _ _ _ (fun e => hne (by rw [hb, e]))⟩
  have := h2.put k (.int .i64 x)
  rwa [scs_set U _ _ _ hk] at this
/-- A dot put behind More: what follows the append. -/
theorem gat_more {w W V : World} {B r : Nat} {U : Nat → Int} {M : List D.Dot} {A : Option Addr} {c : Nat} {d : D.Dot} {v' : Value} (hB : B ≤ r) (hC : Blo w r 35 (scs U A M.length c)) (hR : DRow w B (.slice A M.length c) M) (hW : Below w.heap.size w W)
    (hown : DRow V B v' (M ++ [d])) (hg : W.grownBy V (Value.slice A M.length c).ownBlock) :
    ∃ A' N' c', v' = .slice A' N' c' ∧ Hid (N' = (M ++ [d]).length) ∧ V.cell? ⟨r, 8, none⟩ = some (.slice A M.length c) ∧ V.frozen? ⟨r, 8, none⟩ = false ∧ Gat (V.setCell ⟨r, 8, none⟩ (.slice A' N' c')) B r U (M ++ [d]) ∧ Below B w (V.setCell ⟨r, 8, none⟩ (.slice A' N' c')) := by
  obtain ⟨A', c', rfl, _⟩ := hown.form
  have hne := hR.blo hC (by decide)
  have hlt := hC.lt
  have hCV : Blo V r 35 (scs U A M.length c) := (hC.new hW).grown hg (fun e => hne e.symm)
  have hneV := hown.blo hCV (by decide)
  have hbV : Below B w V := (hW.mono (by omega)).grown hg (by have := hW.size; omega) (fun k hk => (hR.lt k hk).1)
  refine ⟨A', _, c', rfl, Lib.hid rfl, by simpa using hCV.cell 8, hCV.frozen 8, ⟨hB, A', c', ?_, ?_⟩, hbV.setCell hB _⟩
  · have := hCV.put 8 (.slice A' (M ++ [d]).length c')
    rwa [scs_more] at this
  · exact hown.keep fun b hb _ => Below.heap_setCell _ _ _ _ (fun e => hneV (by rw [hb, e]))

set_option maxRecDepth 100000 in
set_option maxHeartbeats 4000000 in
theorem of_any (T : Nat → Prop) (A : Option Addr) (n c : Nat) (L : List D.Dot) (w : World) (hn : L.length = n) (hr : Rds w T A (dvs L)) (hl : n ≤ 1000000) :
    Calls Try.prog 39 #[.slice A n c] w (SetPost (D.cU fun d => L.contains d) (D.cM fun d => L.contains d) w) := by
  have HN := Lib.hid hn
  clear hn
  obtain ⟨w2, hw2⟩ : ∃ W, (w.alloc (.cells (scs (fun _ => 0) none 0 0) 35)).alloc (.cells Try.zeroCells101 101) = W := ⟨_, rfl⟩
  have hb2 : Below w.heap.size w w2 := by rw [← hw2]; exact b_alloc2 _ _ _
  have hz2 : w2.heap.size = w.heap.size + 2 := by rw [← hw2]; simp
  have hRes : Blo w2 w.heap.size 35 (scs (fun _ => 0) none 0 0) := by rw [← hw2]; exact (Blo.made _ _ _).alloc _
  have hTab : Tab w2 (w.heap.size + 1) (seen L 0) := by
    refine ⟨Try.zeroCells101, ?_, by rw [Try.zeroTab]; simp, fun m t hm ht => ?_⟩
    · rw [← hw2]
      have := Blo.made (w.alloc (.cells (scs (fun _ => 0) none 0 0) 35)) 101 Try.zeroCells101
      simpa using this
    · rw [Try.zeroTab]
      have : m * 98 + t < 784 := by omega
      simp [this, seen]
  have hr2 := hr.new hb2
  have HW := Lib.hid hw2
  clear hw2
  go_enter Try.func39, Try.ntmps39
  go_wp2_with fail
  rw [HW.out]
  go_loopw [12] (fun iv wr => ∃ i : Nat, iv = .int .i64 i ∧ i ≤ n ∧ Tab wr (w.heap.size + 1) (seen L i) ∧ w2.grownBy wr (some (w.heap.size + 1))) (fun iv _ => n - (intOf iv).toNat)
  case atStart => exact ⟨0, rfl, by omega, hTab, World.grownBy.refl _ _⟩
  case round =>
    obtain ⟨i, rfl, hi, hTb, hg⟩ := hrel
    have hgs := hg.size
    by_cases hlt : i < n
    · have hlt' : i < L.length := by rw [HN.out]; exact hlt
      obtain ⟨ad, rfl, _, c1, c2⟩ := ((hr.old.new hb2).grown hg (fun b hb _ e => by have := hb.2; injection e with e; omega)).dot hlt'
      obtain ⟨x, hx⟩ : ∃ x, x = L[i] := ⟨_, rfl⟩
      rw [← hx] at c1 c2
      obtain ⟨x1, x2⟩ := x
      have HX := Lib.hid hx
      clear hx
      simp only at c1 c2
      obtain ⟨w3, hw3⟩ : ∃ W, wr.alloc (.cells #[.int .i64 x1, .int .i64 x2] 27) = W := ⟨_, rfl⟩
      have hb3 : Below wr.heap.size wr w3 := by rw [← hw3]; exact b_alloc _ _
      have hD3 : Blo w3 wr.heap.size 27 #[.int .i64 x1, .int .i64 x2] := by rw [← hw3]; exact Blo.made _ _ _
      have hM := rmay_any x1 x2 w3
      have k0 : w3.cell? ⟨wr.heap.size, 0, none⟩ = some (.int .i64 x1) := by simpa using hD3.cell 0
      have k1 : w3.cell? ⟨wr.heap.size, 1, none⟩ = some (.int .i64 x2) := by simpa using hD3.cell 1
      have hTb3 := hTb.new hb3
      have hg3 : w2.grownBy w3 (some (w.heap.size + 1)) := gb_trans hg (gb_below hb3 _)
      have HW3 := Lib.hid hw3
      clear hw3
      cases hm : D.may (x1, x2) with
      | false =>
        rw [hm] at hM
        have HS := Lib.hid (seen_skip hlt' (by rw [← HX.out]; exact hm))
        clear hm
        go_wp2_with fail
        rw [HW3.out]
        go_wp2_with fail
        refine hM.mono ?_
        rintro e w4 ⟨rfl, hb4⟩
        clear hM k0 k1
        go_wp2
        go_roundw
        case rel => exact ⟨i + 1, by go_num, by omega, by rw [HS.out]; exact hTb3.new hb4, gb_trans hg3 (gb_below hb4 _)⟩
        case measure => simp [intOf]; omega
      | true =>
        rw [hm] at hM
        have hm' := D.may_iff.1 hm
        simp only at hm'
        obtain ⟨nd, rfl⟩ := Int.eq_ofNat_of_zero_le hm'.1
        obtain ⟨sq, rfl⟩ := Int.eq_ofNat_of_zero_le (show 0 ≤ x2 by omega)
        have HS := Lib.hid (seen_more hlt' (by rw [← HX.out]; exact hm) HX.out.symm)
        have hnd : nd < 8 := by omega
        have hsq : sq < 98 := by omega
        have nI : (nd : Int) < 8 := by omega
        have sI : (sq : Int) < 98 := by omega
        clear hm
        go_wp2_with fail
        rw [HW3.out]
        go_wp2_with fail
        refine hM.mono ?_
        rintro e w4 ⟨rfl, hb4⟩
        have hD4 := hD3.new hb4
        have hTb4 := hTb3.new hb4
        clear hM k0 k1
        have K0 : ∀ W, Grows w4 W → W.cell? ⟨wr.heap.size, 0, none⟩ = some (.int .i64 nd) := fun W hW => by simpa using (hD4.new hW).cell 0
        have K1 : ∀ W, Grows w4 W → W.cell? ⟨wr.heap.size, 1, none⟩ = some (.int .i64 sq) := fun W hW => by simpa using (hD4.new hW).cell 1
        go_wp2_with fail
        refine wp_fam (n := 6) (size := 61) (D := [18, 19, 20, 21, 22, 23]) [(18, isV (.pointer (some ⟨wr.heap.size, 0, none⟩))), (19, isV (.int .i64 nd)), (20, isV (.pointer (some ⟨wr.heap.size, 1, none⟩))), (21, isV (.int .i64 sq)), (22, isV (.pointer (some ⟨w.heap.size + 1, nd * 98, none⟩))), (23, isV (.pointer (some ⟨w.heap.size + 1, nd * 98 + sq, none⟩)))] (by kernel_rfl) (by rfl) (by kernel_rfl) ?_ ?_
        · simp only [List.take_succ_cons, List.take_zero, famAll]
          repeat' apply And.intro
          all_goals first
            | trivial
            | (intro f V hg hl
               have k0 := K0 V hg
               have k1 := K1 V hg
               simp [Oper.looksAt, Op.operands, Call.operands, famAt, famOf, isV] at hl
               simp [famWants, boolIs_bool, execOp, rho, go_sem, hl, k0, k1, nI, sI, famUpon, famOf, isV, Grows.refl])
        · intro u V hgV hu
          have h23 : u 23 = .pointer (some ⟨w.heap.size + 1, nd * 98 + sq, none⟩) := hu 23 (by decide)
          simp only [List.drop_succ_cons, List.drop_zero, fill, Act.put, List.setIfInBounds_toArray, List.set_cons_zero, List.set_cons_succ, h23]
          have hTb5 := hTb4.new hgV
          obtain ⟨t1, t2⟩ := hTb5.cell hnd hsq
          have hTb6 := hTb5.put hnd hsq HS.out
          have hg6 : w2.grownBy V (some (w.heap.size + 1)) := gb_trans (gb_trans hg3 (gb_below hb4 _)) (gb_below hgV _)
          clear hu h23 K0 K1
          go_wp2
          go_roundw
          case rel => exact ⟨i + 1, by go_num, by omega, hTb6, gb_set hg6 (.inl rfl) _⟩
          case measure => simp [intOf]; omega
    · obtain ⟨S, hS⟩ : ∃ S : D.Dot → Bool, S = fun d => L.contains d := ⟨_, rfl⟩
      have HT : Hid (∀ d, seen L i d = (D.may d && S d)) := Lib.hid (fun d => by rw [hS]; unfold seen; rw [List.take_of_length_le (by rw [HN.out]; omega)])
      have HUE : Hid (D.cU (fun d => L.contains d) = D.cU S) := Lib.hid (by rw [hS])
      have HME : Hid (D.cM (fun d => L.contains d) = D.cM S) := Lib.hid (by rw [hS])
      have hRes1 := hRes.grown hg (by simp)
      have hb02 : Below w.heap.size w wr := hb2.grown hg (by omega) (fun k hk => by injection hk with hk; omega)
      obtain ⟨H, hH⟩ : ∃ H, H = seen L i := ⟨_, rfl⟩
      rw [← hH] at hTb HT
      obtain ⟨r, hrr⟩ : ∃ r, r = wr.heap.size := ⟨_, rfl⟩
      obtain ⟨w3, hw3⟩ : ∃ W, wr.alloc (.cells (scs (fun _ => 0) none 0 0) 35) = W := ⟨_, rfl⟩
      have hb3 : Below wr.heap.size wr w3 := by rw [← hw3]; exact b_alloc _ _
      have hC3 : Blo w3 r 35 (scs (fun _ => 0) none 0 0) := by rw [← hw3, hrr]; exact Blo.made _ _ _
      have hz3 : w3.heap.size = r + 1 := by rw [← hw3, hrr]; simp
      have hTb3 := hTb.new hb3
      have hRes3 := hRes1.new hb3
      have hb03 := below_new hb02 hb3
      have hG3 : Gat w3 r r (upTo S 0) (D.pM S (0 * 96)) := ⟨Nat.le_refl _, none, 0, by rw [upTo_zero]; exact hC3, DRow.nil _ _⟩
      have hgr : w.heap.size + 1 < r := by have := hTb.lt; omega
      have HW3 := Lib.hid hw3
      have HR := Lib.hid hrr
      clear hw3 hS hH hRes hRes1 hTab hTb hC3 hg hr2 hr
      go_wp2_with fail
      rw [HW3.out, ← HR.out]
      clear hrr
      go_loopw [7] (fun kv wq => ∃ k : Nat, kv = .int .i64 k ∧ k ≤ 8 ∧ Gat wq r r (upTo S k) (D.pM S (k * 96)) ∧ Below r w3 wq) (fun kv _ => 8 - (intOf kv).toNat)
      case atStart => exact ⟨0, rfl, by omega, hG3, Below.refl _ _⟩
      case round =>
        obtain ⟨k, rfl, hk, hG, hb⟩ := hrel
        have hTr : Tab wr (w.heap.size + 1) H := hTb3.keep (hb.block _ hgr)
        have hbs := hb.size
        by_cases hk8 : k < 8
        · have hkd : decide ((k : Int) < 8) = true := by simp; omega
          have kI : (k : Int) < 8 := by omega
          go_wp2
          go_loop [8] (fun mv => ∃ m : Nat, mv = .int .i64 m ∧ m ≤ 96 ∧ Hid (∀ j, j < m → S ((k : Int), (j : Int) + 1) = true)) (fun mv => 97 - (intOf mv).toNat)
          case atStart => exact ⟨0, rfl, by omega, Lib.hid (fun j hj => by omega)⟩
          case round =>
            obtain ⟨m, rfl, hm, HJ⟩ := hrel
            have hcell := (hTr.cell hk8 (show m + 1 < 98 by omega)).1
            have hm1 : ((m : Int) + 1) < 98 := by omega
            have hm2 : ((m : Int) + 1).toNat = m + 1 := by omega
            have hHv : H ((k : Int), ((m + 1 : Nat) : Int)) = (D.may ((k : Int), (m : Int) + 1) && S ((k : Int), (m : Int) + 1)) := by rw [HT.out]; simp
            rw [hHv] at hcell
            clear hHv
            by_cases hgo : m < 96 ∧ S ((k : Int), (m : Int) + 1) = true
            · obtain ⟨hm96, hSv⟩ := hgo
              have hmay : D.may ((k : Int), (m : Int) + 1) = true := by rw [D.may_iff]; simp; omega
              rw [hmay, Bool.true_and, hSv] at hcell
              have HJ' : Hid (∀ j, j < m + 1 → S ((k : Int), (j : Int) + 1) = true) := Lib.hid (fun j hj => by
                rcases Nat.lt_or_ge j m with h | h
                · exact HJ.out j h
                · obtain rfl : j = m := by omega
                  exact hSv)
              clear hSv hmay
              go_wp2
              go_round
              case rel => exact ⟨m + 1, by go_num, by omega, HJ'⟩
              case measure => simp [intOf]; omega
            · have hf : (D.may ((k : Int), (m : Int) + 1) && S ((k : Int), (m : Int) + 1)) = false := by
                rcases Nat.lt_or_ge m 96 with h | h
                · cases e : S ((k : Int), (m : Int) + 1) with
                  | true => exact absurd ⟨h, e⟩ hgo
                  | false => simp
                · have : D.may ((k : Int), (m : Int) + 1) = false := by
                    cases e : D.may ((k : Int), (m : Int) + 1) with
                    | false => rfl
                    | true => have := D.may_iff.1 e; simp at this; omega
                  simp [this]
              have hgap : D.gap S k = m := D.gap_is hm HJ.out (fun h => by
                cases e : S ((k : Int), (m : Int) + 1) with
                | false => rfl
                | true => exact absurd ⟨h, e⟩ hgo)
              rw [hf] at hcell
              have HG := Lib.hid hgap
              obtain ⟨hBr, A1, c1, hC1, hR1⟩ := hG
              have ku : wr.cell? ⟨r, k, none⟩ = some (.int .i64 (upTo S k k)) := (hC1.cell k).trans (scs_at _ _ _ _ hk8)
              have fu := hC1.frozen k
              have hG4 : Gat (wr.setCell ⟨r, k, none⟩ (.int .i64 (m : Int))) r r (upTo S (k + 1)) (D.pM S (k * 96 + m)) := by
                have h1 := (show Gat wr r r (upTo S k) (D.pM S (k * 96)) from ⟨hBr, A1, c1, hC1, hR1⟩).up hk8 (m : Int)
                have e1 : upd (upTo S k) k (m : Int) = upTo S (k + 1) := by rw [← hgap]; exact upTo_step S k
                have e2 : D.pM S (k * 96 + m) = D.pM S (k * 96) := D.pM_low m (by omega)
                rw [e1, ← e2] at h1
                exact h1
              have hb4 : Below r w3 (wr.setCell ⟨r, k, none⟩ (.int .i64 (m : Int))) := hb.setCell (Nat.le_refl _) _
              have hT4 : Tab (wr.setCell ⟨r, k, none⟩ (.int .i64 (m : Int))) (w.heap.size + 1) H := hTr.keep (Below.heap_setCell _ _ _ _ (by show w.heap.size + 1 ≠ r; omega))
              clear hgap hf hgo HJ hC1 hR1
              go_wp2
              clear hcell ku fu
              obtain ⟨w4, hw4⟩ : ∃ W, wr.setCell ⟨r, k, none⟩ (.int .i64 (m : Int)) = W := ⟨_, rfl⟩
              rw [hw4] at hG4 hb4 hT4 ⊢
              clear hw4 hm1 hm2
              go_loopw [9] (fun qv wq => ∃ q : Nat, qv = .int .i64 ((q : Int) + 1) ∧ m ≤ q ∧ q ≤ 96 ∧ Gat wq r r (upTo S (k + 1)) (D.pM S (k * 96 + q)) ∧ Below r w3 wq) (fun qv _ => 97 - (intOf qv).toNat)
              case atStart => exact ⟨m, rfl, by omega, by omega, hG4, hb4⟩
              case round =>
                obtain ⟨q, rfl, hmq, hq, hG, hb⟩ := hrel
                have hTq : Tab wr (w.heap.size + 1) H := hTb3.keep (hb.block _ hgr)
                have hbs := hb.size
                by_cases hq96 : q < 96
                · have hcell := (hTq.cell hk8 (show q + 1 < 98 by omega)).1
                  have hq1 : ((q : Int) + 1) < 98 := by omega
                  have hq2 : ((q : Int) + 1).toNat = q + 1 := by omega
                  have hq3 : (q : Int) + 1 ≤ 96 := by omega
                  have hHv : H ((k : Int), ((q + 1 : Nat) : Int)) = S ((k : Int), (q : Int) + 1) := by
                    rw [HT.out]
                    have : D.may ((k : Int), ((q + 1 : Nat) : Int)) = true := by rw [D.may_iff]; simp; omega
                    rw [this]; simp
                  rw [hHv] at hcell
                  clear hHv
                  cases hSv : S ((k : Int), (q : Int) + 1) with
                  | false =>
                    rw [hSv] at hcell
                    have HE := Lib.hid (D.cl_no hq96 hSv).2
                    clear hSv
                    go_wp2
                    go_roundw
                    case rel => exact ⟨q + 1, by go_num, by omega, by omega, by rw [← Nat.add_assoc, HE.out]; exact hG, hb⟩
                    case measure => simp [intOf]; omega
                  | true =>
                    rw [hSv] at hcell
                    have HE := Lib.hid (D.pM_in hq96 (by rw [HG.out]; exact hmq) hSv)
                    have hlen := D.pM_len S (k * 96 + q)
                    obtain ⟨hBr, A1, c1, hC1, hR1⟩ := hG
                    have k8 : wr.cell? ⟨r, 8, none⟩ = some (.slice A1 (D.pM S (k * 96 + q)).length c1) := by simpa using hC1.cell 8
                    obtain ⟨Mq, hMq⟩ : ∃ V, V = D.pM S (k * 96 + q) := ⟨_, rfl⟩
                    rw [← hMq] at hC1 hR1 k8 hlen HE
                    have hrl := hC1.lt
                    clear hSv hMq
                    go_wp2_with (at_builtin; refine wpList_dapp _ rfl _ _ rfl r (.slice A1 Mq.length c1) Mq rfl (hR1.alloc _) (fun _ => True) _ 1 1 [((k : Int), (q : Int) + 1)] rfl rfl (dot_rds _ _ _ _) (by omega) (by simp; omega) ?_)
                    intro v' V hown hg _
                    obtain ⟨A', N', c', rfl, HN', cg, fg, hGV, hbV⟩ := gat_more hBr hC1 hR1 (b_alloc _ _) hown hg
                    have hbV' := hb.trans hbV
                    clear hown hg k8
                    go_wp2
                    go_roundw
                    case rel => exact ⟨q + 1, by go_num, by omega, by omega, by rw [← Nat.add_assoc, HE.out]; exact hGV, hbV'⟩
                    case measure => simp [intOf]; omega
                · have e96 : k * 96 + q = (k + 1) * 96 := by omega
                  rw [e96] at hG
                  have hq3 : ¬ (q : Int) + 1 ≤ 96 := by omega
                  clear e96
                  go_wp2
                  go_roundw
                  case rel => exact ⟨k + 1, by go_num, by omega, hG, hb⟩
                  case measure => simp [intOf]; omega
        · have e8 : D.pM S (k * 96) = D.cM S := by rw [show k * 96 = 768 by omega]; exact D.pM_end S
          obtain ⟨hBr, A1, c1, hC1, hR1⟩ := hG
          rw [e8] at hC1 hR1
          have HUk : Hid (∀ j, j < 8 → upTo S k j = D.cU S j) := Lib.hid (fun j hj => by unfold upTo; rw [if_pos (by omega)])
          obtain ⟨z0, z1, z2, z3, z4, z5, z6, z7, z8⟩ := set9 hC1
          have hResq := hRes3.below hb (by omega)
          have hne := hR1.blo hResq (by decide)
          obtain ⟨Mz, HMz⟩ : ∃ V, Hid (D.cM S = V) := ⟨_, Lib.hid rfl⟩
          obtain ⟨Uz, hUz⟩ : ∃ V, V = upTo S k := ⟨_, rfl⟩
          rw [HMz.out] at hC1 hR1 z8 hne
          rw [← hUz] at hC1 z0 z1 z2 z3 z4 z5 z6 z7 HUk
          have hbw : Below w.heap.size w wr := hb03.trans (hb.mono (by omega))
          clear e8 hUz
          go_wp2_with (refine wpList_setv _ rfl 35 _ _ rfl Try.sizeRef w.heap.size _ rfl Uz A1 Mz.length c1 rfl hResq rfl ?_)
          intro w5 hR5 hg5
          have hR6 : DRow w5 r (.slice A1 Mz.length c1) Mz := hR1.grown hg5 (fun b hb e => hne (hb.trans e))
          have hb5 : Below w.heap.size w w5 := hbw.grown hg5 hbw.size (fun k hk => by injection hk with hk; omega)
          obtain ⟨y0, y1, y2, y3, y4, y5, y6, y7, y8⟩ := set9 hR5
          clear z0 z1 z2 z3 z4 z5 z6 z7 z8
          go_wp2
          refine bodyPost_ret (v := sv Uz A1 Mz.length c1) ?_ rfl ?_
          · simp [results, Try.results39, go_sem, y0, y1, y2, y3, y4, y5, y6, y7, y8]
          unfold SetPost
          rw [HUE.out, HME.out, HMz.out]
          exact ⟨A1, c1, by rw [sv_congr HUk.out], hR6.mono (by omega), hb5⟩
end Go.Proofs.Ytegppdobpihbnaa
