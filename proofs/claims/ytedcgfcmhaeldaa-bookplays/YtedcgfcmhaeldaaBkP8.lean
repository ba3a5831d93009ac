/- Layer 8, the program's: Newer, Events. -/
import Derived.Test.YtedcgfcmhaeldaaBkP7
import Derived.Test.YtedcgfcmhaeldaaDotAll
namespace Go.Proofs.Ytedcgfcmhaeldaa
set_option linter.unusedVariables false
set_option linter.unusedSimpArgs false
open Go.ChangeShapes Go.WideShapes Go.ChangeAt Go.RowKit

theorem pick_iff {h : List E.Ev} (hs : B.Srt h) {d : D.Dot} {x : E.Ev} : pick h d = some x ↔ x ∈ h ∧ B.dotOf x = d := by
  induction h with
  | nil => simp [pick]
  | cons y h ih =>
    have hs' := List.pairwise_cons.1 hs
    unfold pick
    rw [List.find?_cons]
    by_cases q : B.dotOf y = d
    · simp only [q, decide_true, Option.some.injEq, List.mem_cons]
      constructor
      · rintro rfl; exact ⟨.inl rfl, q⟩
      · rintro ⟨h1 | h1, h2⟩
        · exact h1.symm
        · have := hs'.1 x h1
          rw [q, h2, B.bef_irr] at this
          cases this
    · simp only [q, decide_false, List.mem_cons]
      refine (ih hs'.2).trans ⟨fun h => ⟨.inr h.1, h.2⟩, fun h => ⟨?_, h.2⟩⟩
      rcases h.1 with h1 | h1
      · exact absurd (by rw [← h1]; exact h.2) q
      · exact h1
/-- Those that hold, in the order of the dots. -/
theorem pick_lst {h : List E.Ev} (hs : B.Srt h) (hm : ∀ x ∈ h, D.may (B.dotOf x) = true) (S : D.Dot → Bool) : (D.lst S).filterMap (pick h) = h.filter fun x => S (B.dotOf x) := by
  refine B.srt_ext ?_ (B.srt_filter _ hs) fun x => ?_
  · refine List.Pairwise.filterMap _ ?_ (List.Pairwise.and_mem.1 (D.pre_ord S 768))
    intro a a' ⟨ha, ha', hk⟩ b hb b' hb'
    rw [(pick_iff hs).1 hb |>.2, (pick_iff hs).1 hb' |>.2]
    exact B.bef_key (D.mem_lst.1 ha).1 (D.mem_lst.1 ha').1 hk
  · rw [List.mem_filterMap, List.mem_filter]
    constructor
    · rintro ⟨d, hd, hp⟩
      obtain ⟨h1, h2⟩ := (pick_iff hs).1 hp
      exact ⟨h1, by rw [h2]; exact (D.mem_lst.1 hd).2⟩
    · rintro ⟨h1, h2⟩
      exact ⟨B.dotOf x, D.mem_lst.2 ⟨hm x h1, h2⟩, (pick_iff hs).2 ⟨h1, rfl⟩⟩
theorem pick_less {b : B.Bk} (hok : B.Ok b) {T : D.Dot → Bool} (hT : ∀ x, D.may x = true → T x = b.saw x) (U : Nat → Int) (M : List D.Dot) : (D.lst (D.less (D.cU T) (D.cM T) U M)).filterMap (pick b.hold) = B.news b (D.has U M) := by
  rw [pick_lst hok.srt (fun x hx => hok.may _ (hok.seen x hx))]
  unfold B.news
  refine List.filter_congr fun x hx => ?_
  have h1 := hok.seen x hx
  have h2 := hok.may _ h1
  unfold D.less
  rw [D.cl_has, h2, hT _ h2, h1]
  cases D.has U M (B.dotOf x) <;> rfl
theorem has_zero (d : D.Dot) : D.has (fun _ => 0) [] d = false := by
  cases hm : D.may d with
  | false => simp [D.has, hm]
  | true =>
    have := D.may_iff.1 hm
    simp [D.has, hm]
    intro _
    omega
theorem news_zero (b : B.Bk) : B.news b (D.has (fun _ => 0) []) = b.hold := List.filter_eq_self.2 fun x _ => by rw [has_zero]; rfl
theorem take_len {l : List E.Ev} {k : List EvV} {most : Int} (h : plain k = l.take most.toNat) (x : E.Ev) : (if (k.length : Int) < most then plain k ++ [x] else plain k) = (l ++ [x]).take most.toNat := by
  have hk : k.length = min most.toNat l.length := by rw [← plain_len, h, List.length_take]
  by_cases hl : (k.length : Int) < most
  · rw [if_pos hl, h, List.take_of_length_le (by omega), List.take_of_length_le (by simp; omega)]
  · rw [if_neg hl, h, List.take_append_of_le_length (by omega)]
/-- A handful is handed events. -/
def HandJ (B p : Nat) (most : Int) (l : List E.Ev) (W : World) : Prop := ∃ k, Hnd W B p most k ∧ plain k = l.take most.toNat
theorem hand_h (B p : Nat) (most : Int) : Hand 52 B p (HandJ B p most) where
  new := fun ⟨k, h1, h2⟩ hb => ⟨k, h1.new hb, h2⟩
  call := fun l e W ⟨k, h1, h2⟩ hr hm hl => by
    have hk : k.length ≤ 800 := by rw [← plain_len, h2, List.length_take]; omega
    refine (htake_any (fun b => b < B) e.F e.A e.M.length e.c e.M W h1 rfl hr (fun b hb => hb) (by omega) (by omega)).mono ?_
    rintro r W' ⟨rfl, ⟨k', h3, h4⟩, h5, h6⟩
    exact ⟨rfl, ⟨k', h3, by rw [h4]; exact take_len h2 _⟩, h5, h6⟩
def drowV (B N : Nat) (L : List D.Dot) : StG := ⟨fun u V => ∃ A c, u = .slice A N c ∧ DRow V B (.slice A N c) L, fun _ _ _ h ⟨A, c, e, k⟩ => ⟨A, c, e, k.new h⟩⟩
/-- What Newer answers. -/
def NewP (X : List E.Ev) (w : World) (e : Ending) (w' : World) : Prop := ∃ A N c l, e = .returned (.slice A N c) ∧ Hid (N = l.length) ∧ plain l = X ∧ EOwn w' (fun b => w.heap.size ≤ b) w.heap.size (.slice A N c) l ∧ Below w.heap.size w w'

set_option maxRecDepth 100000 in
set_option maxHeartbeats 8000000 in
theorem bnewer_any {S S2 : Nat → Prop} {g : Nat} {m : Option Nat} {b : B.Bk} (U : Nat → Int) (A : Option Addr) (n c : Nat) (M : List D.Dot) (most : Int) (w : World) (hP : PB w S g m b) (hn : M.length = n) (hr : Rds w S2 A (dvs M)) (hl : n ≤ 1000000) :
    Calls Try.prog 26 #[.pointer (some ⟨g, 0, none⟩), sv U A n c, .int .i64 most] w (NewP (B.newer b (D.has U M) most) w) := by
  obtain ⟨hok, T, hT, hPi⟩ := hP
  have HPL := Lib.hid (pick_less hok hT U M)
  obtain ⟨w1, hw1⟩ : ∃ W, (w.alloc (.cells (scs U A n c) 53)).alloc (.cells (hcs most none 0 0) 99) = W := ⟨_, rfl⟩
  obtain ⟨gx, hgx⟩ : ∃ q, q = w.heap.size := ⟨_, rfl⟩
  obtain ⟨p, hp⟩ : ∃ q, q = w.heap.size + 1 := ⟨_, rfl⟩
  have hb1 : Below w.heap.size w w1 := by rw [← hw1]; exact b_alloc2 _ _ _
  have hs1 := hb1.size
  have hX1 : Blo w1 gx 53 (scs U A n c) := by rw [← hw1, hgx]; exact (Blo.made _ _ _).alloc _
  have hp1 : Blo w1 p 99 (hcs most none 0 0) := by
    rw [← hw1, hp]
    have := Blo.made (w.alloc (.cells (scs U A n c) 53)) 99 (hcs most none 0 0)
    simpa using this
  have hlt := hPi.lt
  have hltm : ∀ x, m = some x → x < w.heap.size := fun x hx => hPi.ltm hx
  have hPo : PBi w (fun b => S b ∧ b < w.heap.size) g m T b.hold b.time := by
    obtain ⟨A1, c1, h1, h2⟩ := hPi.blk
    obtain ⟨f, h3, h4, h5⟩ := hPi.map
    exact ⟨⟨A1, c1, h1, h2.old⟩, ⟨f, h3, h4, fun d e he => (h5 d e he).old⟩, hPi.srt, hPi.rt⟩
  have hP1 := hPo.new hb1
  obtain ⟨A1, c1, hB, hR⟩ := hP1.blk
  obtain ⟨n1, hn1⟩ : ∃ k, (D.cM T).length = k := ⟨_, rfl⟩
  rw [hn1] at hB
  obtain ⟨N, hN⟩ : ∃ k, k = (D.lst (D.less (D.cU T) (D.cM T) U M)).length := ⟨_, rfl⟩
  have hN768 : N ≤ 768 := by rw [hN]; exact D.lst_len _
  have HC : Hid (∀ V, Grows w1 V → Calls Try.prog 34 #[sv (D.cU T) A1 n1 c1, sv U A n c] V (DotsPost (D.lst (D.less (D.cU T) (D.cM T) U M)) V)) := Lib.hid (fun V hV => dless_any _ S2 (D.cU T) A1 n1 c1 (D.cM T) U A n c M V hn1 (hR.new hV).rds (by have := D.cM_len T; omega) hn ((hr.new hb1).new hV) hl)
  obtain ⟨LL, hLL⟩ : ∃ L, L = D.lst (D.less (D.cU T) (D.cM T) U M) := ⟨_, rfl⟩
  rw [← hLL] at HC hN HPL
  obtain ⟨UT, hUT⟩ : ∃ U, U = D.cU T := ⟨_, rfl⟩
  rw [← hUT] at HC hB
  have HB : Hid (∀ V, Grows w1 V → _) := Lib.hid (fun V hV => set11 (hB.new hV))
  have HZ : Hid (∀ V, Grows w1 V → _) := Lib.hid (fun V hV => set9 (hX1.new hV))
  have hJ1 : HandJ w.heap.size p most [] w1 := ⟨[], ⟨by omega, none, 0, 0, Lib.hid rfl, hp1, EOwn.nil _ _ _⟩, by simp [plain]⟩
  have hHand := hand_h w.heap.size p most
  have HW := Lib.hid hw1
  have HGX := Lib.hid hgx
  have HP := Lib.hid hp
  have HNN := Lib.hid hN
  clear hw1 hgx hp hN hLL hUT hn1 hn hr hR hB hX1 hPi hPo hT hok
  go_enter Try.func26, Try.ntmps26
  go_wp2_with fail
  rw [HW.out, ← HP.out, ← HGX.out]
  refine wp_fam (n := 9) (size := 27) (D := [13, 14, 15, 16, 17, 18, 19, 20, 21]) [(13, isV (.pointer (some ⟨g, 0, none⟩))), (14, isV (.pointer (some ⟨g, 0, none⟩))), (15, isV (.pointer (some ⟨g, 0, none⟩))), (16, isV (.pointer (some ⟨g, 0, none⟩))), (17, isV (sv UT A1 n1 c1)), (18, isV (sv U A n c)), (19, drowV w.heap.size N LL), (20, isV (.pointer (some ⟨p, 0, none⟩))), (21, isV (.func (.func 52) #[.pointer (some ⟨p, 0, none⟩)] #[]))] (by kernel_rfl) (by rfl) (by kernel_rfl) ?_ ?_
  · simp only [List.take_succ_cons, List.take_zero, famAll]
    repeat' apply And.intro
    · intro f V hg hl
      simp [Oper.looksAt, Op.operands, Call.operands, famAt, famOf, isV] at hl
      simp [famWants, boolIs_bool, boolIs_undef, execOp, rho, go_sem, hl, famUpon, famOf, isV, Grows.refl]
    · intro f V hg hl
      simp [Oper.looksAt, Op.operands, Call.operands, famAt, famOf, isV] at hl
      simp [famWants, boolIs_bool, boolIs_undef, execOp, rho, go_sem, hl, famUpon, famOf, isV, Grows.refl]
    · intro f V hg hl
      simp [Oper.looksAt, Op.operands, Call.operands, famAt, famOf, isV] at hl
      simp [famWants, boolIs_bool, boolIs_undef, execOp, rho, go_sem, hl, famUpon, famOf, isV, Grows.refl]
    · intro f V hg hl
      simp [Oper.looksAt, Op.operands, Call.operands, famAt, famOf, isV] at hl
      simp [famWants, boolIs_bool, boolIs_undef, execOp, rho, go_sem, hl, famUpon, famOf, isV, Grows.refl]
    · intro f V hg hl
      obtain ⟨b0, b1, b2, b3, b4, b5, b6, b7, b8, b9, b10⟩ := HB.out V hg
      simp [Oper.looksAt, Op.operands, Call.operands, famAt, famOf, isV] at hl
      simp [famWants, boolIs_bool, boolIs_undef, execOp, rho, go_sem, hl, b0, b1, b2, b3, b4, b5, b6, b7, b8, b9, b10, famUpon, famOf, isV, Grows.refl]
    · intro f V hg hl
      obtain ⟨z0, z1, z2, z3, z4, z5, z6, z7, z8⟩ := HZ.out V hg
      simp [Oper.looksAt, Op.operands, Call.operands, famAt, famOf, isV] at hl
      simp [famWants, boolIs_bool, boolIs_undef, execOp, rho, go_sem, hl, z0, z1, z2, z3, z4, z5, z6, z7, z8, famUpon, famOf, isV, Grows.refl]
    · intro f V hg hl
      simp [Oper.looksAt, Op.operands, Call.operands, famAt, famOf, isV] at hl
      simp [famWants, boolIs_bool, boolIs_undef, execOp, rho, go_sem, hl, famUpon, famOf, isV, Grows.refl]
      refine (HC.out V hg).mono ?_
      rintro e w'' ⟨A', c', rfl, hR', hb'⟩
      rw [← HNN.out] at hR' ⊢
      exact ⟨_, rfl, hb', A', c', rfl, hR'.mono (Nat.le_trans hs1 (Below.size hg))⟩
    · intro f V hg hl
      simp [Oper.looksAt, Op.operands, Call.operands, famAt, famOf, isV] at hl
      simp [famWants, boolIs_bool, boolIs_undef, execOp, rho, go_sem, hl, famUpon, famOf, isV, Grows.refl]
    · intro f V hg hl
      simp [Oper.looksAt, Op.operands, Call.operands, famAt, famOf, isV] at hl
      simp [famWants, boolIs_bool, boolIs_undef, execOp, rho, go_sem, hl, famUpon, famOf, isV, Grows.refl]
    · trivial
  · intro u V hg hu
    obtain ⟨A9, c9, e19, hD9⟩ : ∃ A9 c9, u 19 = .slice A9 N c9 ∧ DRow V w.heap.size (.slice A9 N c9) LL := hu 19 (by decide)
    have e13 : u 13 = .pointer (some ⟨g, 0, none⟩) := hu 13 (by decide)
    have e21 : u 21 = .func (.func 52) #[.pointer (some ⟨p, 0, none⟩)] #[] := hu 21 (by decide)
    simp only [List.drop_succ_cons, List.drop_zero, fill, Act.put, List.setIfInBounds_toArray, List.set_cons_zero, List.set_cons_succ, e13, e19, e21]
    have hPV := hP1.new hg
    have hJV := hHand.new hJ1 hg
    have hbV := below_new hb1 hg
    have hov := pover_any (.inl rfl) hHand A9 N c9 LL V hPV hlt hltm hbV.size HNN.out.symm hD9.drd hN768 hJV
    clear hu e13 e19 e21 HB HZ HC hD9
    go_wp2_with fail
    refine hov.mono ?_
    rintro e w3 ⟨rfl, ⟨k, ⟨_, A3, N3, c3, HN3, hB3, hO3⟩, hk3⟩, hb3⟩
    have y1 : w3.cell? ⟨p, 1, none⟩ = some (.slice A3 N3 c3) := by simpa using hB3.cell 1
    clear hov
    go_wp2
    go_ret
    exact ⟨A3, N3, c3, k, rfl, HN3, by rw [hk3, HPL.out]; rfl, hO3.mono (Nat.le_refl _) (fun b hb => hb.1), hbV.trans hb3⟩
theorem MapM.len {w : World} {m : Option Nat} {f : D.Dot → Option Value} {n : Nat} {t e : TypeId} (h : MapM w m f n) (ht : Try.prog.underlying t = some (.map 39 e)) (ty : TypeId) : (Builtin.len_ #[t] ty #[.map m]).run Try.prog w = .ok (.int .i64 n) w := by
  cases m with
  | none =>
    rw [h.2]
    simp [Builtin.len_, run_underlying ht, goInt]
  | some b => exact MapF.len h ht ty
set_option maxRecDepth 100000 in
set_option maxHeartbeats 8000000 in
theorem bevents_any {S : Nat → Prop} {g : Nat} {m : Option Nat} {b : B.Bk} (w : World) (hP : PB w S g m b) :
    Calls Try.prog 15 #[.pointer (some ⟨g, 0, none⟩)] w (NewP b.hold w) := by
  have hnew := bnewer_any (fun _ => 0) none 0 0 [] (b.hold.length : Int) w hP rfl (Rds.nil (S := fun _ => True)) (by omega)
  have e0 : B.newer b (D.has (fun _ => 0) []) (b.hold.length : Int) = b.hold := by
    unfold B.newer
    rw [news_zero]
    simp
  rw [e0] at hnew
  obtain ⟨hok, T, hT, hPi⟩ := hP
  obtain ⟨A1, c1, hB, hR⟩ := hPi.blk
  obtain ⟨f, hmp, _⟩ := hPi.map
  have b9 := (set11 hB).2.2.2.2.2.2.2.2.2.1
  have hlen : ∀ ty, (Builtin.len_ #[82] ty #[.map m]).run Try.prog w = .ok (.int .i64 (b.hold.length : Int)) w := fun ty => hmp.len Try.mapEv ty
  obtain ⟨N, hN⟩ : ∃ k, k = b.hold.length := ⟨_, rfl⟩
  rw [← hN] at hlen hnew
  clear e0 hN hT hPi hB hR hmp hok
  go_enter Try.func15, Try.ntmps15
  go_wp2_with fail
  refine hnew.mono ?_
  rintro e w2 ⟨A, N', c, l, rfl, h1, h2, h3, h4⟩
  clear hnew hlen b9
  go_wp2
  go_ret
  exact ⟨A, N', c, l, rfl, h1, h2, h3, h4⟩
end Go.Proofs.Ytedcgfcmhaeldaa
