/- The walk of DotsetBack. -/
import Derived.Test.YtegppdobpihbnaaDotLawS
import Derived.Test.YtegppdobpihbnaaDotGet
import Derived.Test.YtegppdobpihbnaaDotGMath2
import Derived.Test.YtegppdobpihbnaaVintEq
namespace Go.Proofs.Ytegppdobpihbnaa
set_option linter.unusedVariables false
set_option linter.unusedSimpArgs false
open Go.ChangeShapes Go.WideShapes Go.ChangeAt Go.RowKit

theorem scs_congr {U V : Nat → Int} (h : ∀ j, j < 8 → U j = V j) (A : Option Addr) (n c : Nat) : scs U A n c = scs V A n c := by
  simp [h 0 (by omega), h 1 (by omega), h 2 (by omega), h 3 (by omega), h 4 (by omega), h 5 (by omega), h 6 (by omega), h 7 (by omega)]
/-- A variable that holds the set of these dots. -/
def BSet (w : World) (B g : Nat) (T : D.Dot → Bool) : Prop := ∃ A c, Blo w g 30 (scs (D.cU T) A (D.cM T).length c) ∧ DRow w B (.slice A (D.cM T).length c) (D.cM T)
theorem BSet.new {w w' : World} {B g : Nat} {T : D.Dot → Bool} (h : BSet w B g T) (hg : Grows w w') : BSet w' B g T := by
  obtain ⟨A, c, h1, h2⟩ := h
  exact ⟨A, c, h1.new hg, h2.new hg⟩
theorem BSet.far {w w' : World} {B g g' : Nat} {T : D.Dot → Bool} {cs : Array Value} (h : BSet w B g T) (hb : Blo w g' 30 cs) (hne : g ≠ g') (hg : w.grownBy w' (some g')) : BSet w' B g T := by
  obtain ⟨A, c, h1, h2⟩ := h
  have hn := h2.blo hb (by decide)
  exact ⟨A, c, h1.grown hg (fun e => hne (by injection e)), h2.grown hg (fun b hb' e => hn (hb'.trans e))⟩
theorem BSet.none {w : World} {g : Nat} (B : Nat) (h : Blo w g 30 (scs (fun _ => 0) none 0 0)) : BSet w B g (fun _ => false) := by
  obtain ⟨h1, h2⟩ := D.cl_none
  unfold BSet
  rw [h2]
  refine ⟨Option.none, 0, ?_, DRow.nil _ _⟩
  rw [scs_congr h1]
  exact h
theorem encS_byt {U : Nat → Int} {M : List D.Dot} (h : D.rt U M = true) : Byt (D.encS U M) := by
  have hU := (D.rt_iff.1 h).1
  have one : ∀ n : Int, 0 ≤ n → n ≤ 768 → ∀ b ∈ V.enc n, 0 ≤ b ∧ b < 256 := fun n h0 h1 => V.enc_byt 1 n h0 (by simp; omega)
  have u : ∀ k, k ≤ 8 → ∀ b ∈ D.encU U k, 0 ≤ b ∧ b < 256 := fun k => by
    induction k with
    | zero => intro _ b hb; simp [D.encU] at hb
    | succ k ih =>
      intro hk b hb
      unfold D.encU at hb
      rcases List.mem_append.1 hb with hb | hb
      · exact ih (by omega) b hb
      · have := hU k (by omega)
        exact one _ this.1 (by omega) b hb
  intro b hb
  unfold D.encS at hb
  rcases List.mem_append.1 hb with hb | hb
  · rcases List.mem_append.1 hb with hb | hb
    · exact u 8 (Nat.le_refl _) b hb
    · exact one _ (by omega) (by have := D.rt_len h; omega) b hb
  · unfold D.encM at hb
    obtain ⟨d, hd, hb⟩ := List.mem_flatMap.1 hb
    have hm := D.may_iff.1 (D.rt_may h hd).1
    rcases List.mem_append.1 hb with hb | hb
    · exact one _ (by omega) (by omega) b hb
    · exact one _ (by omega) (by omega) b hb

set_option maxRecDepth 100000 in
set_option maxHeartbeats 8000000 in
theorem back_main (Al : Option Addr) (n cl : Nat) (l : List D.Dot) (Ab : Option Addr) (Nb cb : Nat) (B : List Int) (w : World) (hn : l.length = n) (hr : Rds w (· < w.heap.size) Al (dvs l)) (hNb : Nb = B.length) (hNc : Nb ≤ cb) (hrb : Rds w (· < w.heap.size) Ab (u8s B)) (hBy : Byt B) :
    Calls Try.prog 7 #[.slice Al n cl, .slice Ab Nb cb] w fun e w' => e = .returned (.bool true) ∧ Below w.heap.size w w' := by
  have hA := alive_yes w
  have HN := Lib.hid hn
  have HNB := Lib.hid hNb
  clear hn hNb
  go_enter Try.func7, Try.ntmps7
  go_wp2_with fail
  refine hA.mono ?_
  rintro e w2 ⟨rfl, hb2⟩
  have hr2 := hr.new hb2
  have hrb2 := hrb.new hb2
  clear hA hr hrb
  by_cases hbig : 300 < n
  · have hbi : (300 : Int) < (n : Int) := by omega
    go_wp2
    go_ret
    exact ⟨rfl, hb2⟩
  by_cases hbb : 3000 < Nb
  · have hbi : (3000 : Int) < (Nb : Int) := by omega
    go_wp2
    go_ret
    exact ⟨rfl, hb2⟩
  have hBl : B.length ≤ 3000 := by rw [← HNB.out]; omega
  obtain ⟨w3, hw3⟩ : ∃ W, (w2.alloc (.cells (scs (fun _ => 0) none 0 0) 30)).alloc (.cells (scs (fun _ => 0) none 0 0) 30) = W := ⟨_, rfl⟩
  obtain ⟨g5, hg5⟩ : ∃ q, q = w2.heap.size := ⟨_, rfl⟩
  obtain ⟨g6, hg6⟩ : ∃ q, q = w2.heap.size + 1 := ⟨_, rfl⟩
  have hb3 : Below w2.heap.size w2 w3 := by rw [← hw3]; exact b_alloc2 _ _ _
  have hB5 : Blo w3 g5 30 (scs (fun _ => 0) none 0 0) := by rw [← hw3, hg5]; exact (Blo.made _ _ _).alloc _
  have hB6 : Blo w3 g6 30 (scs (fun _ => 0) none 0 0) := by
    rw [← hw3, hg6]
    have := Blo.made (w2.alloc (.cells (scs (fun _ => 0) none 0 0) 30)) 30 (scs (fun _ => 0) none 0 0)
    simpa using this
  have hr3 := hr2.new hb3
  have hrb3 := hrb2.new hb3
  have hb03 := below_new hb2 hb3
  have hs2 := hb2.size
  have h5 : w.heap.size ≤ g5 := by omega
  have h6 : w.heap.size ≤ g6 := by omega
  have h56 : g5 ≠ g6 := by omega
  have hs3 := hb03.size
  have HW := Lib.hid hw3
  have HG5 := Lib.hid hg5
  have HG6 := Lib.hid hg6
  have hS5 := BSet.none w.heap.size hB5
  have hS6 := BSet.none w.heap.size hB6
  have h300 : n ≤ 300 := by omega
  clear hw3 hg5 hg6 hb3 hB5 hB6 hr2 hrb2 hb2
  go_wp2_with fail
  rw [HW.out, ← HG6.out, ← HG5.out]
  clear hbig hbb
  go_loopw [32] (fun iv wr => ∃ (i : Nat) (T T' : D.Dot → Bool), iv = .int .i64 i ∧ i ≤ n ∧ Hid (D.Tak l i T) ∧ Hid (D.Las l i T') ∧ BSet wr w.heap.size g5 T ∧ BSet wr w.heap.size g6 T' ∧ Rds wr (· < w.heap.size) Al (dvs l) ∧ Rds wr (· < w.heap.size) Ab (u8s B) ∧ Below w.heap.size w wr) (fun iv _ => n - (intOf iv).toNat)
  case atStart => exact ⟨0, _, _, rfl, by omega, Lib.hid (D.Tak.zero l), Lib.hid (D.Las.zero l), hS5, hS6, hr3, hrb3, hb03⟩
  case round =>
    obtain ⟨i, T, T', rfl, hi, HTa, HLa, hS, hS', hrl, hrB, hball⟩ := hrel
    have hbs := hball.size
    clear hr3 hrb3 hb03 hS5 hS6 hs2 hs3 HW HG5 HG6
    by_cases hlt : i < n
    · have hlt' : i < l.length := by rw [HN.out]; exact hlt
      obtain ⟨A1, c1, hB1, hR1⟩ := hS
      obtain ⟨U1, hU1⟩ : ∃ U, U = D.cU T := ⟨_, rfl⟩
      obtain ⟨M1, hM1⟩ : ∃ M, M = D.cM T := ⟨_, rfl⟩
      rw [← hU1, ← hM1] at hB1
      rw [← hM1] at hR1
      obtain ⟨m1, hm1⟩ : ∃ m, M1.length = m := ⟨_, rfl⟩
      rw [hm1] at hB1 hR1
      have hml1 : m1 ≤ 768 := by rw [← hm1, hM1]; exact D.cM_len _
      obtain ⟨ad, rfl, _, d1, d2⟩ := hrl.dot hlt'
      obtain ⟨x, hx⟩ : ∃ x, x = l[i]'hlt' := ⟨_, rfl⟩
      obtain ⟨T1, a1, a2, a3⟩ := D.add_step T x
      obtain ⟨⟨Ua, Ma, ea⟩, hra⟩ : ∃ r, r = D.add U1 M1 x := ⟨_, rfl⟩
      have hra' := hra
      rw [hU1, hM1] at hra'
      rw [← hra'] at a1 a2
      simp only at a1 a2
      rw [← hx] at d1 d2
      have HTN : Hid (D.Tak l (i + 1) T1) := Lib.hid (HTa.out.more hlt' (fun y hy => by rw [a3 y hy, hx]))
      obtain ⟨a, b⟩ := x
      simp only at d1 d2
      have hAdd : ∀ V, Grows wr V → Calls Try.prog 11 #[sv U1 A1 m1 c1, .agg #[.int .i64 a, .int .i64 b]] V (SetPost2 (Ua, Ma, ea) V) := fun V hV => by
        rw [hra]
        exact dadd_any _ U1 A1 m1 c1 M1 a b V hm1 (hR1.rdsT.new hV) (by omega)
      obtain ⟨N, hNe⟩ : ∃ N, Ma.length = N := ⟨_, rfl⟩
      have hMl : N ≤ 768 := by
        rw [← hNe]
        by_cases e0 : ea = 0
        · rw [(a1 e0).2]; exact D.cM_len _
        · have : Ma = (D.add U1 M1 (a, b)).2.1 := by rw [← hra]
          rw [this]; unfold D.add; split
          · simp
          · split
            · simp
            · exact D.cM_len _
      have HADD : Hid (∀ V, Grows wr V → Calls Try.prog 11 #[sv U1 A1 m1 c1, .agg #[.int .i64 a, .int .i64 b]] V fun e w' => ∃ A' c', e = .returned (.tuple #[sv Ua A' N c', .int .i64 ea]) ∧ DRow w' V.heap.size (.slice A' N c') Ma ∧ Below V.heap.size V w') := Lib.hid (fun V hV => by
        have := hAdd V hV
        unfold SetPost2 at this
        simp only at this
        rw [hNe] at this
        exact this)
      have HC1 : Hid (∀ V, Grows wr V → _) := Lib.hid (fun V hV => set9 (hB1.new hV))
      have HCD : Hid (∀ V, Grows wr V → V.cell? (ad.add (i * 2)) = some (.int .i64 a) ∧ V.cell? ⟨(ad.add (i * 2)).block, (ad.add (i * 2)).off + 1, none⟩ = some (.int .i64 b)) := Lib.hid (fun V hV => ⟨cell_up d1 hV, cell_up d2 hV⟩)
      have HU1 : Hid (ea = 0 → Ua = D.cU T1 ∧ Ma = D.cM T1) := Lib.hid a1
      have HU2 : Hid (ea ≠ 0 → T1 = T) := Lib.hid a2
      have HNE := Lib.hid hNe
      have HSz : BSet wr w.heap.size g5 T := ⟨A1, c1, by rw [← hU1, ← hM1, hm1]; exact hB1, by rw [← hM1, hm1]; exact hR1⟩
      have nI : (i : Int) < (n : Int) := by omega
      clear hU1 hM1 hm1 hx a1 a2 a3 hra hra' hAdd hNe d1 d2 hB1 hR1
      go_wp2_with fail
      refine wp_famF (n := 10) (size := 122) (D := [36, 37, 38, 39, 40, 41, 35, 42, 43, 8]) [8] [(36, isV (sv U1 A1 m1 c1)), (37, isV (.slice (some ad) n cl)), (38, isV (.int .i64 (i : Int))), (39, isV (.pointer (some (ad.add (i * 2))))), (40, isV (.agg #[.int .i64 a, .int .i64 b])), (41, pairV Ua wr.heap.size N Ma ea), (35, pairV Ua wr.heap.size N Ma ea), (42, ownS Ua wr.heap.size N Ma), (43, isV (.int .i64 ea)), (8, ptrV wr.heap.size 30 (scs (fun _ => 0) none 0 0))] (by kernel_rfl) (by rfl) (by kernel_rfl) (fun _ _ d _ _ h => by cases d <;> exact h) ?_ ?_
      · simp only [List.take_succ_cons, List.take_zero, famAllF]
        repeat' apply And.intro
        · rw [if_neg (by decide)]
          intro f V hg hl
          obtain ⟨z0, z1, z2, z3, z4, z5, z6, z7, z8⟩ := HC1.out V hg
          simp [Oper.looksAt, Op.operands, Call.operands, famAt, famOf, isV] at hl
          simp [famWants, boolIs_bool, boolIs_undef, execOp, rho, go_sem, hl, z0, z1, z2, z3, z4, z5, z6, z7, z8, famUpon, famOf, isV, isAlloc, Grows.refl]
        · rw [if_neg (by decide)]
          intro f V hg hl
          simp [Oper.looksAt, Op.operands, Call.operands, famAt, famOf, isV] at hl
          simp [famWants, boolIs_bool, boolIs_undef, execOp, rho, go_sem, hl, famUpon, famOf, isV, isAlloc, Grows.refl]
        · rw [if_neg (by decide)]
          intro f V hg hl
          simp [Oper.looksAt, Op.operands, Call.operands, famAt, famOf, isV] at hl
          simp [famWants, boolIs_bool, boolIs_undef, execOp, rho, go_sem, hl, famUpon, famOf, isV, isAlloc, Grows.refl]
        · rw [if_neg (by decide)]
          intro f V hg hl
          simp [Oper.looksAt, Op.operands, Call.operands, famAt, famOf, isV] at hl
          simp [famWants, boolIs_bool, boolIs_undef, execOp, rho, go_sem, hl, nI, hlt, famUpon, famOf, isV, isAlloc, Grows.refl]
        · rw [if_neg (by decide)]
          intro f V hg hl
          obtain ⟨k0, k1⟩ := HCD.out V hg
          simp [Oper.looksAt, Op.operands, Call.operands, famAt, famOf, isV] at hl
          simp [famWants, boolIs_bool, boolIs_undef, execOp, rho, go_sem, hl, k0, k1, famUpon, famOf, isV, isAlloc, Grows.refl]
        · rw [if_neg (by decide)]
          intro f V hg hl
          simp [Oper.looksAt, Op.operands, Call.operands, famAt, famOf, isV] at hl
          simp [famWants, boolIs_bool, boolIs_undef, execOp, rho, go_sem, hl, famUpon, famOf, isV, isAlloc, Grows.refl]
          refine (HADD.out V hg).mono ?_
          rintro e w'' ⟨B, d, rfl, hR, hb⟩
          exact ⟨_, rfl, hb, B, d, rfl, hR.mono (Below.size hg)⟩
        · rw [if_neg (by decide)]
          intro f V hg hl
          simp [Oper.looksAt, Op.operands, Call.operands, famAt, famOf, isV] at hl
          obtain ⟨A', c', e29, hR⟩ := hl
          have hl := e29
          simp [famWants, boolIs_bool, boolIs_undef, execOp, rho, go_sem, hl, e29, famUpon, famOf, isV, isAlloc, Grows.refl]
          exact ⟨A', c', rfl, hR⟩
        · rw [if_neg (by decide)]
          intro f V hg hl
          simp [Oper.looksAt, Op.operands, Call.operands, famAt, famOf, isV] at hl
          obtain ⟨A', c', e25, hR⟩ := hl
          have hl := e25
          simp [famWants, boolIs_bool, boolIs_undef, execOp, rho, go_sem, hl, e25, famUpon, famOf, isV, isAlloc, Grows.refl]
          exact ⟨A', c', rfl, hR⟩
        · rw [if_pos (by decide)]
          intro f V hg hl
          simp [Oper.looksAt, Op.operands, Call.operands, famAt, famOf, isV] at hl
          obtain ⟨A', c', e25, hR⟩ := hl
          refine ⟨by simp [famWants], .int .i64 ea, fun w' => by simp [execOp, rho, go_sem, e25], fun d hd => by cases hd; rfl⟩
        · rw [if_neg (by decide)]
          intro f V hg hl
          simp [Oper.looksAt, Op.operands, Call.operands, famAt, famOf, isV] at hl
          simp [famWants, boolIs_bool, boolIs_undef, execOp, rho, go_sem, hl, Grows.alloc, famUpon, famOf, isV, isAlloc, Grows.refl]
          exact ⟨_, rfl, Blo.made _ _ _, Below.size hg⟩
        · trivial
      · intro u V hg hu _
        obtain ⟨Ab', cb', e30, hRb⟩ : ∃ A c, u 42 = sv Ua A N c ∧ DRow V wr.heap.size (.slice A N c) Ma := hu 42 (by decide)
        have e31 : u 43 = .int .i64 ea := hu 43 (by decide)
        obtain ⟨gx, e8, hB8, hgx⟩ : ∃ g, u 8 = .pointer (some ⟨g, 0, none⟩) ∧ Blo V g 30 (scs (fun _ => 0) none 0 0) ∧ wr.heap.size ≤ g := hu 8 (by decide)
        simp only [List.drop_succ_cons, List.drop_zero, fill, Act.put, List.setIfInBounds_toArray, List.set_cons_zero, List.set_cons_succ, e30, e31, e8]
        have hne := hRb.blo hB8 (by decide)
        clear hu e30 e31 e8
        go_wp2_with (refine wpList_setv _ rfl 30 _ _ rfl Try.sizeSet gx _ rfl Ua Ab' N cb' rfl hB8 rfl ?_)
        intro v1 hX1 hgv
        have hR1 : DRow v1 wr.heap.size (.slice Ab' N cb') Ma := hRb.grown hgv (fun b hb e => hne (hb.trans e))
        have hbv : Below wr.heap.size wr v1 := Below.grown hg hgv (Below.size hg) (fun k hk => by injection hk with hk; omega)
        have hS1 := HSz.new hbv
        have hS1' := hS'.new hbv
        have hrl1 := hrl.new hbv
        have hrB1 := hrB.new hbv
        have hb01 := hball.trans (hbv.mono hbs)
        have hs1 := hb01.size
        clear hg hgv hB8 hRb hne hbv HSz hS' hrl hrB hball HC1 HCD HADD
        by_cases hea : ea = 0
        case' pos =>
          have Hg5 := Lib.hid (HU1.out hea)
          subst hea
          obtain ⟨cs5, hs5, hB5⟩ : ∃ cs : Array Value, cs.size = 9 ∧ Blo v1 g5 30 cs := by
            obtain ⟨A5, c5, hB5, _⟩ := hS1
            exact ⟨_, rfl, hB5⟩
          clear hS1
          obtain ⟨z0, z1, z2, z3, z4, z5, z6, z7, z8⟩ := set9 hX1
          go_wp2_with (refine wpList_setv _ rfl 30 _ _ rfl Try.sizeSet g5 _ rfl Ua Ab' N cb' rfl hB5 hs5 ?_)
          intro w8 hB7 hg7
          obtain ⟨g1, g2⟩ := Hg5.out
          have hne7 := hR1.blo hB5 (by decide)
          have HSN : BSet w8 w.heap.size g5 T1 := ⟨Ab', cb', by rw [← g1, ← g2, HNE.out]; exact hB7, by rw [← g2, HNE.out]; exact (hR1.grown hg7 (fun b hb e => hne7 (hb.trans e))).mono (by omega)⟩
          have HSO := hS1'.far hB5 (Ne.symm h56) hg7
          have hrlN := hrl1.grown hg7 (fun b hb _ e => by injection e with e; omega)
          have hrBN := hrB1.grown hg7 (fun b hb _ e => by injection e with e; omega)
          have hb0N := hb01.grown hg7 hs1 (fun k hk => by injection hk with hk; omega)
          clear Hg5 z0 z1 z2 z3 z4 z5 z6 z7 z8 g1 g2 hB7 hg7 hne7 hB5 hs5
        case' neg =>
          have hea' : (ea == 0) = false := by simpa using hea
          have HSN : BSet v1 w.heap.size g5 T1 := by rw [HU2.out hea]; exact hS1
          have HSO := hS1'
          have hrlN := hrl1
          have hrBN := hrB1
          have hb0N := hb01
          clear hS1
          obtain ⟨w8, hOO⟩ : ∃ W, W = v1 := ⟨_, rfl⟩
          subst hOO
        all_goals
          have hbsN := hb0N.size
          clear hX1 hR1 hS1' hrl1 hrB1 hb01 hs1 HU1 HU2 HNE
          obtain ⟨HTN1⟩ : Nonempty (Hid (D.Tak l (i + 1) T1)) := ⟨HTN⟩
          clear HTN
          obtain ⟨hSN, hSO, hrl8, hrB8, hb08, hbs8⟩ := And.intro HSN (And.intro HSO (And.intro hrlN (And.intro hrBN (And.intro hb0N hbsN))))
          clear HSN HSO hrlN hrBN hb0N hbsN
          obtain ⟨p, hp⟩ : ∃ p, p = n - 1 := ⟨_, rfl⟩
          obtain ⟨q, hq⟩ : ∃ q, q = n - 1 - i := ⟨_, rfl⟩
          have hqe : q = l.length - 1 - i := by rw [HN.out]; exact hq
          have hqlt : q < l.length := by rw [HN.out]; omega
          have hqn : q < n := by omega
          have HW1 : Hid (IntKind.i64.wrap ((n : Int) - 1) = (p : Int)) := Lib.hid (by rw [Go.IntWalk.i64_in _ (by omega)]; omega)
          have HW2 : Hid (IntKind.i64.wrap ((p : Int) - (i : Int)) = (q : Int)) := Lib.hid (by rw [Go.IntWalk.i64_in _ (by omega)]; omega)
          clear hp hq
          obtain ⟨A1, c1, hB1, hR1⟩ := hSO
          obtain ⟨U1, hU1⟩ : ∃ U, U = D.cU T' := ⟨_, rfl⟩
          obtain ⟨M1, hM1⟩ : ∃ M, M = D.cM T' := ⟨_, rfl⟩
          rw [← hU1, ← hM1] at hB1
          rw [← hM1] at hR1
          obtain ⟨m1, hm1⟩ : ∃ m, M1.length = m := ⟨_, rfl⟩
          rw [hm1] at hB1 hR1
          have hml1 : m1 ≤ 768 := by rw [← hm1, hM1]; exact D.cM_len _
          obtain ⟨ad', hAd, _, d1, d2⟩ := hrl8.dot hqlt
          obtain rfl : ad = ad' := by injection hAd
          clear hAd
          obtain ⟨x, hx⟩ : ∃ x, x = l[q]'hqlt := ⟨_, rfl⟩
          obtain ⟨T2, a1, a2, a3⟩ := D.add_step T' x
          obtain ⟨⟨Ua, Ma, ea⟩, hra⟩ : ∃ r, r = D.add U1 M1 x := ⟨_, rfl⟩
          have hra' := hra
          rw [hU1, hM1] at hra'
          rw [← hra'] at a1 a2
          simp only at a1 a2
          rw [← hx] at d1 d2
          have HTN : Hid (D.Las l (i + 1) T2) := Lib.hid (HLa.out.more hlt' (fun y hy => by rw [a3 y hy, hx]; simp only [hqe]))
          obtain ⟨a, b⟩ := x
          simp only at d1 d2
          have hAdd : ∀ V, Grows w8 V → Calls Try.prog 11 #[sv U1 A1 m1 c1, .agg #[.int .i64 a, .int .i64 b]] V (SetPost2 (Ua, Ma, ea) V) := fun V hV => by
            rw [hra]
            exact dadd_any _ U1 A1 m1 c1 M1 a b V hm1 (hR1.rdsT.new hV) (by omega)
          obtain ⟨N, hNe⟩ : ∃ N, Ma.length = N := ⟨_, rfl⟩
          have hMl : N ≤ 768 := by
            rw [← hNe]
            by_cases e0 : ea = 0
            · rw [(a1 e0).2]; exact D.cM_len _
            · have : Ma = (D.add U1 M1 (a, b)).2.1 := by rw [← hra]
              rw [this]; unfold D.add; split
              · simp
              · split
                · simp
                · exact D.cM_len _
          have HADD : Hid (∀ V, Grows w8 V → Calls Try.prog 11 #[sv U1 A1 m1 c1, .agg #[.int .i64 a, .int .i64 b]] V fun e w' => ∃ A' c', e = .returned (.tuple #[sv Ua A' N c', .int .i64 ea]) ∧ DRow w' V.heap.size (.slice A' N c') Ma ∧ Below V.heap.size V w') := Lib.hid (fun V hV => by
            have := hAdd V hV
            unfold SetPost2 at this
            simp only at this
            rw [hNe] at this
            exact this)
          have HC1 : Hid (∀ V, Grows w8 V → _) := Lib.hid (fun V hV => set9 (hB1.new hV))
          have HCD : Hid (∀ V, Grows w8 V → V.cell? (ad.add (q * 2)) = some (.int .i64 a) ∧ V.cell? ⟨(ad.add (q * 2)).block, (ad.add (q * 2)).off + 1, none⟩ = some (.int .i64 b)) := Lib.hid (fun V hV => ⟨cell_up d1 hV, cell_up d2 hV⟩)
          have HU1 : Hid (ea = 0 → Ua = D.cU T2 ∧ Ma = D.cM T2) := Lib.hid a1
          have HU2 : Hid (ea ≠ 0 → T2 = T') := Lib.hid a2
          have HNE := Lib.hid hNe
          have HSz : BSet w8 w.heap.size g6 T' := ⟨A1, c1, by rw [← hU1, ← hM1, hm1]; exact hB1, by rw [← hM1, hm1]; exact hR1⟩
          have nI : (q : Int) < (n : Int) := by omega
          clear hqe
          clear hU1 hM1 hm1 hx a1 a2 a3 hra hra' hAdd hNe d1 d2 hB1 hR1
          go_wp2_with fail
          refine wp_famF (n := 14) (size := 122) (D := [48, 49, 50, 51, 52, 53, 54, 55, 56, 57, 47, 58, 59, 10]) [12] [(48, isV (sv U1 A1 m1 c1)), (49, isV (.slice (some ad) n cl)), (50, isV (.slice (some ad) n cl)), (51, isV (.int .i64 (n : Int))), (52, isV (.int .i64 (p : Int))), (53, isV (.int .i64 (i : Int))), (54, isV (.int .i64 (q : Int))), (55, isV (.pointer (some (ad.add (q * 2))))), (56, isV (.agg #[.int .i64 a, .int .i64 b])), (57, pairV Ua w8.heap.size N Ma ea), (47, pairV Ua w8.heap.size N Ma ea), (58, ownS Ua w8.heap.size N Ma), (59, isV (.int .i64 ea)), (10, ptrV w8.heap.size 30 (scs (fun _ => 0) none 0 0))] (by kernel_rfl) (by rfl) (by kernel_rfl) (fun _ _ d _ _ h => by cases d <;> exact h) ?_ ?_
          · simp only [List.take_succ_cons, List.take_zero, famAllF]
            repeat' apply And.intro
            · rw [if_neg (by decide)]
              intro f V hg hl
              obtain ⟨z0, z1, z2, z3, z4, z5, z6, z7, z8⟩ := HC1.out V hg
              simp [Oper.looksAt, Op.operands, Call.operands, famAt, famOf, isV] at hl
              simp [famWants, boolIs_bool, boolIs_undef, execOp, rho, go_sem, hl, z0, z1, z2, z3, z4, z5, z6, z7, z8, famUpon, famOf, isV, isAlloc, Grows.refl]
            · rw [if_neg (by decide)]
              intro f V hg hl
              simp [Oper.looksAt, Op.operands, Call.operands, famAt, famOf, isV] at hl
              simp [famWants, boolIs_bool, boolIs_undef, execOp, rho, go_sem, hl, famUpon, famOf, isV, isAlloc, Grows.refl]
            · rw [if_neg (by decide)]
              intro f V hg hl
              simp [Oper.looksAt, Op.operands, Call.operands, famAt, famOf, isV] at hl
              simp [famWants, boolIs_bool, boolIs_undef, execOp, rho, go_sem, hl, famUpon, famOf, isV, isAlloc, Grows.refl]
            · rw [if_neg (by decide)]
              intro f V hg hl
              simp [Oper.looksAt, Op.operands, Call.operands, famAt, famOf, isV] at hl
              simp [famWants, boolIs_bool, boolIs_undef, execOp, rho, go_sem, hl, famUpon, famOf, isV, isAlloc, Grows.refl]
            · rw [if_neg (by decide)]
              intro f V hg hl
              simp [Oper.looksAt, Op.operands, Call.operands, famAt, famOf, isV] at hl
              simp [famWants, boolIs_bool, boolIs_undef, execOp, rho, go_sem, hl, HW1.out, famUpon, famOf, isV, isAlloc, Grows.refl]
            · rw [if_neg (by decide)]
              intro f V hg hl
              simp [Oper.looksAt, Op.operands, Call.operands, famAt, famOf, isV] at hl
              simp [famWants, boolIs_bool, boolIs_undef, execOp, rho, go_sem, hl, famUpon, famOf, isV, isAlloc, Grows.refl]
            · rw [if_neg (by decide)]
              intro f V hg hl
              simp [Oper.looksAt, Op.operands, Call.operands, famAt, famOf, isV] at hl
              simp [famWants, boolIs_bool, boolIs_undef, execOp, rho, go_sem, hl, HW2.out, famUpon, famOf, isV, isAlloc, Grows.refl]
            · rw [if_neg (by decide)]
              intro f V hg hl
              simp [Oper.looksAt, Op.operands, Call.operands, famAt, famOf, isV] at hl
              simp [famWants, boolIs_bool, boolIs_undef, execOp, rho, go_sem, hl, nI, hqn, famUpon, famOf, isV, isAlloc, Grows.refl]
            · rw [if_neg (by decide)]
              intro f V hg hl
              obtain ⟨k0, k1⟩ := HCD.out V hg
              simp [Oper.looksAt, Op.operands, Call.operands, famAt, famOf, isV] at hl
              simp [famWants, boolIs_bool, boolIs_undef, execOp, rho, go_sem, hl, k0, k1, famUpon, famOf, isV, isAlloc, Grows.refl]
            · rw [if_neg (by decide)]
              intro f V hg hl
              simp [Oper.looksAt, Op.operands, Call.operands, famAt, famOf, isV] at hl
              simp [famWants, boolIs_bool, boolIs_undef, execOp, rho, go_sem, hl, famUpon, famOf, isV, isAlloc, Grows.refl]
              refine (HADD.out V hg).mono ?_
              rintro e w'' ⟨B, d, rfl, hR, hb⟩
              exact ⟨_, rfl, hb, B, d, rfl, hR.mono (Below.size hg)⟩
            · rw [if_neg (by decide)]
              intro f V hg hl
              simp [Oper.looksAt, Op.operands, Call.operands, famAt, famOf, isV] at hl
              obtain ⟨A', c', e29, hR⟩ := hl
              have hl := e29
              simp [famWants, boolIs_bool, boolIs_undef, execOp, rho, go_sem, hl, e29, famUpon, famOf, isV, isAlloc, Grows.refl]
              exact ⟨A', c', rfl, hR⟩
            · rw [if_neg (by decide)]
              intro f V hg hl
              simp [Oper.looksAt, Op.operands, Call.operands, famAt, famOf, isV] at hl
              obtain ⟨A', c', e25, hR⟩ := hl
              have hl := e25
              simp [famWants, boolIs_bool, boolIs_undef, execOp, rho, go_sem, hl, e25, famUpon, famOf, isV, isAlloc, Grows.refl]
              exact ⟨A', c', rfl, hR⟩
            · rw [if_pos (by decide)]
              intro f V hg hl
              simp [Oper.looksAt, Op.operands, Call.operands, famAt, famOf, isV] at hl
              obtain ⟨A', c', e25, hR⟩ := hl
              refine ⟨by simp [famWants], .int .i64 ea, fun w' => by simp [execOp, rho, go_sem, e25], fun d hd => by cases hd; rfl⟩
            · rw [if_neg (by decide)]
              intro f V hg hl
              simp [Oper.looksAt, Op.operands, Call.operands, famAt, famOf, isV] at hl
              simp [famWants, boolIs_bool, boolIs_undef, execOp, rho, go_sem, hl, Grows.alloc, famUpon, famOf, isV, isAlloc, Grows.refl]
              exact ⟨_, rfl, Blo.made _ _ _, Below.size hg⟩
            · trivial
          · intro u V hg hu _
            obtain ⟨Ab', cb', e30, hRb⟩ : ∃ A c, u 58 = sv Ua A N c ∧ DRow V w8.heap.size (.slice A N c) Ma := hu 58 (by decide)
            have e31 : u 59 = .int .i64 ea := hu 59 (by decide)
            obtain ⟨gx, e8, hB8, hgx⟩ : ∃ g, u 10 = .pointer (some ⟨g, 0, none⟩) ∧ Blo V g 30 (scs (fun _ => 0) none 0 0) ∧ w8.heap.size ≤ g := hu 10 (by decide)
            simp only [List.drop_succ_cons, List.drop_zero, fill, Act.put, List.setIfInBounds_toArray, List.set_cons_zero, List.set_cons_succ, e30, e31, e8]
            have hne := hRb.blo hB8 (by decide)
            clear hu e30 e31 e8
            go_wp2_with (refine wpList_setv _ rfl 30 _ _ rfl Try.sizeSet gx _ rfl Ua Ab' N cb' rfl hB8 rfl ?_)
            intro v1 hX1 hgv
            have hR1 : DRow v1 w8.heap.size (.slice Ab' N cb') Ma := hRb.grown hgv (fun b hb e => hne (hb.trans e))
            have hbv : Below w8.heap.size w8 v1 := Below.grown hg hgv (Below.size hg) (fun k hk => by injection hk with hk; omega)
            have hS1 := HSz.new hbv
            have hS1' := hSN.new hbv
            have hrl1 := hrl8.new hbv
            have hrB1 := hrB8.new hbv
            have hb01 := hb08.trans (hbv.mono hbs8)
            have hs1 := hb01.size
            clear hg hgv hB8 hRb hne hbv HSz hSN hrl8 hrB8 hb08 HC1 HCD HADD
            by_cases hea : ea = 0
            case' pos =>
              have Hg6 := Lib.hid (HU1.out hea)
              subst hea
              obtain ⟨cs5, hs5, hB5⟩ : ∃ cs : Array Value, cs.size = 9 ∧ Blo v1 g6 30 cs := by
                obtain ⟨A5, c5, hB5, _⟩ := hS1
                exact ⟨_, rfl, hB5⟩
              clear hS1
              obtain ⟨z0, z1, z2, z3, z4, z5, z6, z7, z8⟩ := set9 hX1
              go_wp2_with (refine wpList_setv _ rfl 30 _ _ rfl Try.sizeSet g6 _ rfl Ua Ab' N cb' rfl hB5 hs5 ?_)
              intro w9 hB7 hg7
              obtain ⟨g1, g2⟩ := Hg6.out
              have hne7 := hR1.blo hB5 (by decide)
              have HSN : BSet w9 w.heap.size g6 T2 := ⟨Ab', cb', by rw [← g1, ← g2, HNE.out]; exact hB7, by rw [← g2, HNE.out]; exact (hR1.grown hg7 (fun b hb e => hne7 (hb.trans e))).mono (by omega)⟩
              have HSO := hS1'.far hB5 h56 hg7
              have hrlN := hrl1.grown hg7 (fun b hb _ e => by injection e with e; omega)
              have hrBN := hrB1.grown hg7 (fun b hb _ e => by injection e with e; omega)
              have hb0N := hb01.grown hg7 hs1 (fun k hk => by injection hk with hk; omega)
              clear Hg6 z0 z1 z2 z3 z4 z5 z6 z7 z8 g1 g2 hB7 hg7 hne7 hB5 hs5
            case' neg =>
              have hea' : (ea == 0) = false := by simpa using hea
              have HSN : BSet v1 w.heap.size g6 T2 := by rw [HU2.out hea]; exact hS1
              have HSO := hS1'
              have hrlN := hrl1
              have hrBN := hrB1
              have hb0N := hb01
              clear hS1
              obtain ⟨w9, hOO⟩ : ∃ W, W = v1 := ⟨_, rfl⟩
              subst hOO
            all_goals
              have hbsN := hb0N.size
              clear hX1 hR1 hS1' hrl1 hrB1 hb01 hs1 HU1 HU2 HNE
              go_wp2
              go_roundw
              case rel => exact ⟨i + 1, T1, T2, by go_num, by omega, HTN1, HTN, HSO, HSN, hrlN, hrBN, hb0N⟩
              case measure => simp [intOf]; omega
    · have hin : i = n := by omega
      have hnI : ¬ (i : Int) < (n : Int) := by omega
      have hsame := D.tak_las (l := l) (by rw [HN.out, ← hin]; exact HTa.out) (by rw [HN.out, ← hin]; exact HLa.out)
      obtain ⟨e1, e2⟩ := D.cl_same hsame
      obtain ⟨A1, c1, hB1, hR1⟩ := hS
      obtain ⟨A2, c2, hB2, hR2⟩ := hS'
      rw [← e2, ← scs_congr e1] at hB2
      rw [← e2] at hR2
      have hrt := D.cl_rt T
      obtain ⟨U1, hU1⟩ : ∃ U, U = D.cU T := ⟨_, rfl⟩
      obtain ⟨M1, hM1⟩ : ∃ M, M = D.cM T := ⟨_, rfl⟩
      have hml0 : M1.length ≤ 768 := by rw [hM1]; exact D.cM_len _
      rw [← hU1, ← hM1] at hB1 hB2 hrt
      rw [← hM1] at hR1 hR2
      obtain ⟨m1, hm1⟩ : ∃ m, M1.length = m := ⟨_, rfl⟩
      rw [hm1] at hB1 hB2 hR1 hR2 hml0
      have HM1 := Lib.hid hm1
      have HRT := Lib.hid hrt
      have hml : m1 ≤ 1000000 := by omega
      clear e1 e2 hsame hU1 hM1 hm1 hrt HTa HLa hrl
      have hr1 := hR1.rdsT
      have hr2 := hR2.rdsT
      have HF1 : Hid (∀ V, Grows wr V → Calls Try.prog 20 #[sv U1 A1 m1 c1] V fun e w' => ∃ A' c', e = .returned (sv U1 A' m1 c') ∧ Copy w' V.heap.size A' c' M1 ∧ Below V.heap.size V w') := Lib.hid (fun V hV => by
        have := from_any _ U1 A1 m1 c1 M1 V HM1.out (hr1.new hV) hml
        unfold CopyPost at this
        rw [HM1.out] at this
        exact this)
      have HF2 : Hid (∀ V, Grows wr V → Calls Try.prog 20 #[sv U1 A2 m1 c2] V fun e w' => ∃ A' c', e = .returned (sv U1 A' m1 c') ∧ Copy w' V.heap.size A' c' M1 ∧ Below V.heap.size V w') := Lib.hid (fun V hV => by
        have := from_any _ U1 A2 m1 c2 M1 V HM1.out (hr2.new hV) hml
        unfold CopyPost at this
        rw [HM1.out] at this
        exact this)
      have HSa : Hid (∀ (V : World) (B1 B2 : Option Addr) (d1 d2 : Nat), Copy V wr.heap.size B1 d1 M1 → Copy V wr.heap.size B2 d2 M1 → Calls Try.prog 19 #[sv U1 B1 m1 d1, sv U1 B2 m1 d2] V fun e w' => e = .returned (.bool true) ∧ Grows V w') := Lib.hid (fun V B1 B2 d1 d2 h1 h2 => rsame_yes _ _ U1 B1 B2 m1 d1 d2 M1 V HM1.out h1.at h2.at hml)
      have HRt : Hid (∀ V, Grows wr V → Calls Try.prog 15 #[sv U1 A1 m1 c1] V fun e w' => e = .returned (.bool true) ∧ Grows V w') := Lib.hid (fun V hV => by
        have := right_any _ U1 A1 m1 c1 M1 V HM1.out (hr1.new hV) hml
        rw [HRT.out] at this
        exact this)
      have HC5 : Hid (∀ V, Grows wr V → _) := Lib.hid (fun V hV => set9 (hB1.new hV))
      have HC6 : Hid (∀ V, Grows wr V → _) := Lib.hid (fun V hV => set9 (hB2.new hV))
      go_wp2_with fail
      refine wp_fam (n := 11) (size := 122) (D := [64, 65, 66, 67, 68, 69, 70, 71, 72, 73, 74]) [(64, isV (sv U1 A1 m1 c1)), (65, copyS U1 wr.heap.size m1 M1), (66, isV (sv U1 A2 m1 c2)), (67, copyS U1 wr.heap.size m1 M1), (68, isV (.bool true)), (69, isV (.bool false)), (70, isV (.bool false)), (71, isV (sv U1 A1 m1 c1)), (72, isV (.bool true)), (73, isV (.bool false)), (74, isV (.bool false))] (by kernel_rfl) (by rfl) (by kernel_rfl) ?_ ?_
      · simp only [List.take_succ_cons, List.take_zero, famAll]
        repeat' apply And.intro
        · intro f V hg hl
          obtain ⟨z0, z1, z2, z3, z4, z5, z6, z7, z8⟩ := HC5.out V hg
          simp [Oper.looksAt, Op.operands, Call.operands, famAt, famOf, isV] at hl
          simp [famWants, boolIs_bool, boolIs_undef, execOp, rho, go_sem, hl, z0, z1, z2, z3, z4, z5, z6, z7, z8, famUpon, famOf, isV, Grows.refl]
        · intro f V hg hl
          simp [Oper.looksAt, Op.operands, Call.operands, famAt, famOf, isV] at hl
          simp [famWants, boolIs_bool, boolIs_undef, execOp, rho, go_sem, hl, famUpon, famOf, isV, Grows.refl]
          refine (HF1.out V hg).mono ?_
          rintro e w'' ⟨B, d, rfl, hc, hb⟩
          exact ⟨_, rfl, hb, B, d, rfl, hc.mono (Below.size hg)⟩
        · intro f V hg hl
          obtain ⟨z0, z1, z2, z3, z4, z5, z6, z7, z8⟩ := HC6.out V hg
          simp [Oper.looksAt, Op.operands, Call.operands, famAt, famOf, isV] at hl
          simp [famWants, boolIs_bool, boolIs_undef, execOp, rho, go_sem, hl, z0, z1, z2, z3, z4, z5, z6, z7, z8, famUpon, famOf, isV, Grows.refl]
        · intro f V hg hl
          simp [Oper.looksAt, Op.operands, Call.operands, famAt, famOf, isV] at hl
          simp [famWants, boolIs_bool, boolIs_undef, execOp, rho, go_sem, hl, famUpon, famOf, isV, Grows.refl]
          refine (HF2.out V hg).mono ?_
          rintro e w'' ⟨B, d, rfl, hc, hb⟩
          exact ⟨_, rfl, hb, B, d, rfl, hc.mono (Below.size hg)⟩
        · intro f V hg hl
          simp [Oper.looksAt, Op.operands, Call.operands, famAt, famOf, isV] at hl
          obtain ⟨⟨B1, d1, e65, h1⟩, B2, d2, e67, h2⟩ := hl
          have hl := e65
          simp [famWants, boolIs_bool, boolIs_undef, execOp, rho, go_sem, hl, e67, famUpon, famOf, isV, Grows.refl]
          exact HSa.out V B1 B2 d1 d2 h1 h2
        · intro f V hg hl
          simp [Oper.looksAt, Op.operands, Call.operands, famAt, famOf, isV] at hl
          simp [famWants, boolIs_bool, boolIs_undef, execOp, rho, go_sem, hl, famUpon, famOf, isV, Grows.refl]
        · intro f V hg hl
          simp [Oper.looksAt, Op.operands, Call.operands, famAt, famOf, isV] at hl
          simp [famWants, boolIs_bool, boolIs_undef, execOp, rho, go_sem, hl, famUpon, famOf, isV, Grows.refl]
        · intro f V hg hl
          obtain ⟨z0, z1, z2, z3, z4, z5, z6, z7, z8⟩ := HC5.out V hg
          simp [Oper.looksAt, Op.operands, Call.operands, famAt, famOf, isV] at hl
          simp [famWants, boolIs_bool, boolIs_undef, execOp, rho, go_sem, hl, z0, z1, z2, z3, z4, z5, z6, z7, z8, famUpon, famOf, isV, Grows.refl]
        · intro f V hg hl
          simp [Oper.looksAt, Op.operands, Call.operands, famAt, famOf, isV] at hl
          simp [famWants, boolIs_bool, boolIs_undef, execOp, rho, go_sem, hl, famUpon, famOf, isV, Grows.refl]
          exact HRt.out V hg
        · intro f V hg hl
          simp [Oper.looksAt, Op.operands, Call.operands, famAt, famOf, isV] at hl
          simp [famWants, boolIs_bool, boolIs_undef, execOp, rho, go_sem, hl, famUpon, famOf, isV, Grows.refl]
        · intro f V hg hl
          simp [Oper.looksAt, Op.operands, Call.operands, famAt, famOf, isV] at hl
          simp [famWants, boolIs_bool, boolIs_undef, execOp, rho, go_sem, hl, famUpon, famOf, isV, Grows.refl]
        · trivial
      · intro u w10 hg hu
        have h74 : u 74 = .bool false := hu 74 (by decide)
        simp only [List.drop_succ_cons, List.drop_zero, fill, Act.put, List.setIfInBounds_toArray, List.set_cons_zero, List.set_cons_succ, h74]
        refine wpList_nil ?_
        have hB10 := hB1.new hg
        have hr10 := hr1.new hg
        have hrB10 := hrB.new hg
        have hb010 := hball.trans (Below.mono hg hbs)
        clear hu h74 HF1 HF2 HSa HRt HC5 HC6 hB1 hB2 hR1 hR2 hr1 hr2 hg hrB hball hbs
        obtain ⟨E, hE⟩ : ∃ E, E = D.encS U1 M1 := ⟨_, rfl⟩
        have hEl : E.length ≤ 2000 := by rw [hE]; exact D.encS_len HRT.out
        have hEb : Byt E := by rw [hE]; exact encS_byt HRT.out
        have hPB : D.putB U1 M1 = E := by unfold D.putB; rw [if_pos HRT.out, hE]
        have hPE : D.putE U1 M1 = 0 := by unfold D.putE; rw [if_pos HRT.out]
        have hPu := dPut_any _ U1 A1 m1 c1 M1 w10 HM1.out hr10 hml
        rw [hPB, hPE] at hPu
        unfold BytesPost at hPu
        have HE := Lib.hid hE
        obtain ⟨z0, z1, z2, z3, z4, z5, z6, z7, z8⟩ := set9 hB10
        clear hPB hPE hE
        go_wp2_with fail
        refine hPu.mono ?_
        rintro e w11 ⟨A5, N5, c5, rfl, hN5, ho5, hb5⟩
        have hB11 := hB10.new hb5
        have hr11 := hr10.new hb5
        have hrB11 := hrB10.new hb5
        have hs10 := hb010.size
        have hb011 := hb010.trans (hb5.mono hs10)
        have hGe : Calls Try.prog 30 #[.slice A5 N5 c5] w11 fun e w' => ∃ A c, e = .returned (.tuple #[sv U1 A m1 c, .int .i64 0]) ∧ DRow w' w11.heap.size (.slice A m1 c) M1 ∧ Below w11.heap.size w11 w' := by
          refine (get_any _ A5 N5 c5 E w11 hN5 (own_rds ho5) (by omega) hEb).mono ?_
          rintro e w' ⟨A, c, h1, h2, h3⟩
          obtain ⟨q1, q2, q3⟩ := D.get_enc HRT.out
          rw [← HE.out] at q1 q2 q3
          rw [q3, HM1.out] at h1 h2
          rw [q1, sv_congr q2] at h1
          exact ⟨A, c, h1, h2, h3⟩
        have HN5 := Lib.hid hN5
        clear z0 z1 z2 z3 z4 z5 z6 z7 z8 hPu hB10 hr10 hrB10 hb010 hb5 ho5 hN5
        go_wp2_with fail
        refine hGe.mono ?_
        rintro e w12 ⟨A6, c6, rfl, hR6, hb6⟩
        obtain ⟨w13, hw13⟩ : ∃ W, w12.alloc (.cells (scs U1 A6 m1 c6) 30) = W := ⟨_, rfl⟩
        obtain ⟨gu, hgu⟩ : ∃ g, g = w12.heap.size := ⟨_, rfl⟩
        have hb13 : Below w12.heap.size w12 w13 := by rw [← hw13]; exact b_alloc _ _
        have hU13 : Blo w13 gu 30 (scs U1 A6 m1 c6) := by rw [← hw13, hgu]; exact Blo.made _ _ _
        have hr13 := (hR6.new hb13).rdsT
        have hB13 := (hB11.new hb6).new hb13
        have hrs13 := (hr11.new hb6).new hb13
        have hrB13 := (hrB11.new hb6).new hb13
        have hb013 := (hb011.trans (hb6.mono hb011.size)).trans (hb13.mono (hb011.trans (hb6.mono hb011.size)).size)
        have HW13 := Lib.hid hw13
        have HGU0 := Lib.hid hgu
        clear hGe hR6 hb6 hb13 hB11 hr11 hrB11 hb011 hw13 hgu hs10
        have HF1 : Hid (∀ V, Grows w13 V → Calls Try.prog 20 #[sv U1 A6 m1 c6] V fun e w' => ∃ A' c', e = .returned (sv U1 A' m1 c') ∧ Copy w' V.heap.size A' c' M1 ∧ Below V.heap.size V w') := Lib.hid (fun V hV => by
          have := from_any _ U1 A6 m1 c6 M1 V HM1.out (hr13.new hV) hml
          unfold CopyPost at this
          rw [HM1.out] at this
          exact this)
        have HF2 : Hid (∀ V, Grows w13 V → Calls Try.prog 20 #[sv U1 A1 m1 c1] V fun e w' => ∃ A' c', e = .returned (sv U1 A' m1 c') ∧ Copy w' V.heap.size A' c' M1 ∧ Below V.heap.size V w') := Lib.hid (fun V hV => by
          have := from_any _ U1 A1 m1 c1 M1 V HM1.out (hrs13.new hV) hml
          unfold CopyPost at this
          rw [HM1.out] at this
          exact this)
        have HSa : Hid (∀ (V : World) (B1 B2 : Option Addr) (d1 d2 : Nat), Copy V w13.heap.size B1 d1 M1 → Copy V w13.heap.size B2 d2 M1 → Calls Try.prog 19 #[sv U1 B1 m1 d1, sv U1 B2 m1 d2] V fun e w' => e = .returned (.bool true) ∧ Grows V w') := Lib.hid (fun V B1 B2 d1 d2 h1 h2 => rsame_yes _ _ U1 B1 B2 m1 d1 d2 M1 V HM1.out h1.at h2.at hml)
        have HC5 : Hid (∀ V, Grows w13 V → _) := Lib.hid (fun V hV => set9 (hB13.new hV))
        have HC6 : Hid (∀ V, Grows w13 V → _) := Lib.hid (fun V hV => set9 (hU13.new hV))
        go_wp2_with fail
        rw [HW13.out, ← HGU0.out]
        refine wp_fam (n := 14) (size := 122) (D := [85, 86, 87, 88, 89, 90, 91, 92, 93, 94, 95, 96, 97, 98]) [(85, isV (.int .i64 0)), (86, isV (.bool false)), (87, isV (.bool false)), (88, isV (.int .i64 0)), (89, isV (.bool false)), (90, isV (.bool false)), (91, isV (.bool false)), (92, isV (sv U1 A6 m1 c6)), (93, copyS U1 w13.heap.size m1 M1), (94, isV (sv U1 A1 m1 c1)), (95, copyS U1 w13.heap.size m1 M1), (96, isV (.bool true)), (97, isV (.bool false)), (98, isV (.bool false))] (by kernel_rfl) (by rfl) (by kernel_rfl) ?_ ?_
        · simp only [List.take_succ_cons, List.take_zero, famAll]
          repeat' apply And.intro
          · intro f V hg hl
            simp [Oper.looksAt, Op.operands, Call.operands, famAt, famOf, isV] at hl
            simp [famWants, boolIs_bool, boolIs_undef, execOp, rho, go_sem, hl, famUpon, famOf, isV, Grows.refl]
          · intro f V hg hl
            simp [Oper.looksAt, Op.operands, Call.operands, famAt, famOf, isV] at hl
            simp [famWants, boolIs_bool, boolIs_undef, execOp, rho, go_sem, hl, famUpon, famOf, isV, Grows.refl]
          · intro f V hg hl
            simp [Oper.looksAt, Op.operands, Call.operands, famAt, famOf, isV] at hl
            simp [famWants, boolIs_bool, boolIs_undef, execOp, rho, go_sem, hl, famUpon, famOf, isV, Grows.refl]
          · intro f V hg hl
            simp [Oper.looksAt, Op.operands, Call.operands, famAt, famOf, isV] at hl
            simp [famWants, boolIs_bool, boolIs_undef, execOp, rho, go_sem, hl, famUpon, famOf, isV, Grows.refl]
          · intro f V hg hl
            simp [Oper.looksAt, Op.operands, Call.operands, famAt, famOf, isV] at hl
            simp [famWants, boolIs_bool, boolIs_undef, execOp, rho, go_sem, hl, famUpon, famOf, isV, Grows.refl]
          · intro f V hg hl
            simp [Oper.looksAt, Op.operands, Call.operands, famAt, famOf, isV] at hl
            simp [famWants, boolIs_bool, boolIs_undef, execOp, rho, go_sem, hl, famUpon, famOf, isV, Grows.refl]
          · intro f V hg hl
            simp [Oper.looksAt, Op.operands, Call.operands, famAt, famOf, isV] at hl
            simp [famWants, boolIs_bool, boolIs_undef, execOp, rho, go_sem, hl, famUpon, famOf, isV, Grows.refl]
          · intro f V hg hl
            obtain ⟨z0, z1, z2, z3, z4, z5, z6, z7, z8⟩ := HC6.out V hg
            simp [Oper.looksAt, Op.operands, Call.operands, famAt, famOf, isV] at hl
            simp [famWants, boolIs_bool, boolIs_undef, execOp, rho, go_sem, hl, z0, z1, z2, z3, z4, z5, z6, z7, z8, famUpon, famOf, isV, Grows.refl]
          · intro f V hg hl
            simp [Oper.looksAt, Op.operands, Call.operands, famAt, famOf, isV] at hl
            simp [famWants, boolIs_bool, boolIs_undef, execOp, rho, go_sem, hl, famUpon, famOf, isV, Grows.refl]
            refine (HF1.out V hg).mono ?_
            rintro e w'' ⟨B, d, rfl, hc, hb⟩
            exact ⟨_, rfl, hb, B, d, rfl, hc.mono (Below.size hg)⟩
          · intro f V hg hl
            obtain ⟨z0, z1, z2, z3, z4, z5, z6, z7, z8⟩ := HC5.out V hg
            simp [Oper.looksAt, Op.operands, Call.operands, famAt, famOf, isV] at hl
            simp [famWants, boolIs_bool, boolIs_undef, execOp, rho, go_sem, hl, z0, z1, z2, z3, z4, z5, z6, z7, z8, famUpon, famOf, isV, Grows.refl]
          · intro f V hg hl
            simp [Oper.looksAt, Op.operands, Call.operands, famAt, famOf, isV] at hl
            simp [famWants, boolIs_bool, boolIs_undef, execOp, rho, go_sem, hl, famUpon, famOf, isV, Grows.refl]
            refine (HF2.out V hg).mono ?_
            rintro e w'' ⟨B, d, rfl, hc, hb⟩
            exact ⟨_, rfl, hb, B, d, rfl, hc.mono (Below.size hg)⟩
          · intro f V hg hl
            simp [Oper.looksAt, Op.operands, Call.operands, famAt, famOf, isV] at hl
            obtain ⟨⟨B1, d1, e65, h1⟩, ⟨B2, d2, e67, h2⟩, hl⟩ := hl
            simp [famWants, boolIs_bool, boolIs_undef, execOp, rho, go_sem, hl, e65, e67, famUpon, famOf, isV, Grows.refl]
            exact HSa.out V B1 B2 d1 d2 h1 h2
          · intro f V hg hl
            simp [Oper.looksAt, Op.operands, Call.operands, famAt, famOf, isV] at hl
            simp [famWants, boolIs_bool, boolIs_undef, execOp, rho, go_sem, hl, famUpon, famOf, isV, Grows.refl]
          · intro f V hg hl
            simp [Oper.looksAt, Op.operands, Call.operands, famAt, famOf, isV] at hl
            simp [famWants, boolIs_bool, boolIs_undef, execOp, rho, go_sem, hl, famUpon, famOf, isV, Grows.refl]
          · trivial
        · intro u w14 hg hu
          have h98 : u 98 = .bool false := hu 98 (by decide)
          simp only [List.drop_succ_cons, List.drop_zero, fill, Act.put, List.setIfInBounds_toArray, List.set_cons_zero, List.set_cons_succ, h98]
          refine wpList_nil ?_
          have hrB14 := hrB13.new hg
          have hb014 := hb013.trans (Below.mono hg hb013.size)
          clear hu h98 HF1 HF2 HSa HC5 HC6 hU13 hr13 hB13 hrs13 hrB13 hb013 hg
          have hGe := get_any _ Ab Nb cb B w14 HNB.out hrB14 (by omega) hBy
          unfold GetPost at hGe
          obtain ⟨GU, hGU⟩ : ∃ x, x = D.getU B := ⟨_, rfl⟩
          obtain ⟨GM, hGM⟩ : ∃ x, x = D.getM B := ⟨_, rfl⟩
          obtain ⟨GE, hGE⟩ : ∃ x, x = D.gE B := ⟨_, rfl⟩
          have hGl : GM.length ≤ 768 := by rw [hGM]; exact D.getM_len B
          have HBK : Hid (GE = 0 → D.putB GU GM = B ∧ D.putE GU GM = 0) := Lib.hid (fun h => by
            obtain ⟨k1, k2⟩ := D.get_back hBy (by rw [← hGE]; exact h)
            unfold D.putB D.putE
            rw [hGU, hGM, if_pos k1, if_pos k1]
            exact ⟨k2, rfl⟩)
          have HNO : Hid (GE ≠ 0 → GM.length = 0) := Lib.hid (fun h => by
            rw [hGM]; unfold D.getM; rw [if_neg (by rw [← hGE]; exact h)]; rfl)
          rw [← hGU, ← hGM, ← hGE] at hGe
          obtain ⟨m, hm⟩ : ∃ m, GM.length = m := ⟨_, rfl⟩
          rw [hm] at hGe hGl HNO
          have HM := Lib.hid hm
          clear hGU hGM hGE hm
          go_wp2_with fail
          refine hGe.mono ?_
          rintro e w15 ⟨A9, c9, rfl, hR9, hb9⟩
          obtain ⟨w16, hw16⟩ : ∃ W, w15.alloc (.cells (scs GU A9 m c9) 30) = W := ⟨_, rfl⟩
          obtain ⟨gv, hgv⟩ : ∃ g, g = w15.heap.size := ⟨_, rfl⟩
          have hb16 : Below w15.heap.size w15 w16 := by rw [← hw16]; exact b_alloc _ _
          have hV16 : Blo w16 gv 30 (scs GU A9 m c9) := by rw [← hw16, hgv]; exact Blo.made _ _ _
          have hr16 := (hR9.new hb16).rdsT
          have hrB16 := (hrB14.new hb9).new hb16
          have hb015 := hb014.trans (hb9.mono hb014.size)
          have hb016 := hb015.trans (hb16.mono hb015.size)
          clear hGe hR9 hb9 hrB14 hb014 hb015 hb16
          obtain ⟨z0, z1, z2, z3, z4, z5, z6, z7, z8⟩ := set9 hV16
          rw [← hw16, hgv] at z0 z1 z2 z3 z4 z5 z6 z7 z8
          have HW16 := Lib.hid hw16
          have HGV := Lib.hid hgv
          clear hw16 hgv
          by_cases hge : GE = 0
          · subst hge
            obtain ⟨k1, k2⟩ := HBK.out rfl
            have hPu := dPut_any _ GU A9 m c9 GM w16 HM.out hr16 (by omega)
            rw [k1, k2] at hPu
            unfold BytesPost at hPu
            clear k1 k2
            go_wp2_with fail
            rw [HW16.out, ← HGV.out]
            refine hPu.mono ?_
            rintro e w17 ⟨A7, N7, c7, rfl, hN7, ho7, hb7⟩
            have hSm : Calls Try.prog 32 #[.slice A7 N7 c7, .slice Ab Nb cb] w17 fun e w' => e = .returned (.bool true) ∧ Drew w17 w' := by
              rw [hN7, HNB.out]
              exact same_yes _ _ A7 Ab c7 cb B w17 (own_rds ho7) (hrB16.new hb7) (by omega)
            have hb017 := hb016.trans (hb7.mono hb016.size)
            clear hPu z0 z1 z2 z3 z4 z5 z6 z7 z8 hN7 ho7 hb7 hrB16 hb016
            go_wp2_with fail
            refine hSm.mono ?_
            rintro e w18 ⟨rfl, hd⟩
            clear hSm
            go_wp2
            go_ret
            exact ⟨rfl, hb017.trans (hd.below _)⟩
          · have hm0 := HNO.out hge
            subst hm0
            have hgb : (GE != 0) = true := by simpa using hge
            go_wp2
            go_ret
            exact ⟨rfl, by rw [HW16.out]; exact hb016⟩
end Go.Proofs.Ytegppdobpihbnaa
