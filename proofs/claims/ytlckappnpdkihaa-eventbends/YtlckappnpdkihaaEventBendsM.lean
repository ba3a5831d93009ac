/- The walk of EventBends. -/
import Derived.Test.YtlckappnpdkihaaEvAlive
import Derived.Test.YtlckappnpdkihaaEvMem
import Derived.Test.YtlckappnpdkihaaEvRefSame
import Derived.Test.YtlckappnpdkihaaEvR7
import Derived.Test.YtlckappnpdkihaaFam
import Derived.Test.YtlckappnpdkihaaDotMem
import Derived.Deep.DeepCutAuto
namespace Go.Proofs.Ytlckappnpdkihaa
set_option linter.unusedVariables false
set_option linter.unusedSimpArgs false
open Go.ChangeShapes Go.WideShapes Go.ChangeAt Go.RowKit

def copyE (F : Nat → Int) (n B : Nat) (M : List D.Dot) : StG := ⟨fun u w => ∃ A c, u = ev F A n c ∧ Copy w B A c M, fun _ _ _ h ⟨A, c, e, k⟩ => ⟨A, c, e, k.new h⟩⟩
def ptrE (B : Nat) : StG := ⟨fun u w => ∃ g, u = .pointer (some ⟨g, 0, none⟩) ∧ Blo w g 28 (ecs (fun _ => 0) none 0 0) ∧ B ≤ g, fun _ _ _ h ⟨g, e, k, l⟩ => ⟨g, e, k.new h, l⟩⟩

def oneE (a b : Int) : StG := ⟨fun u w => ∃ g, u = .slice (some ⟨g, 0, none⟩) 1 1 ∧ Blo w g 23 #[.int .i64 a, .int .i64 b], fun _ _ _ h ⟨g, e, k⟩ => ⟨g, e, k.new h⟩⟩
/-- Four events of one's own, each with dots of its own. -/
structure Four (w0 w : World) (go gt gv gw : Nat) (co ct cv cw : Array Value) (Bo : Nat) (Ao : Option Addr) (ko : Nat) (Mo : List D.Dot) (At : Option Addr) (kt : Nat) (Mt : List D.Dot) (Av : Option Addr) (kv : Nat) (Mv : List D.Dot) (Aw : Option Addr) (kw : Nat) (Mw : List D.Dot) : Prop where
  b : Below w0.heap.size w0 w
  bo : Blo w go 28 co
  bt : Blo w gt 28 ct
  bv : Blo w gv 28 cv
  bw : Blo w gw 28 cw
  ro : Copy w Bo Ao ko Mo
  rt : Copy w w0.heap.size At kt Mt
  rv : Copy w w0.heap.size Av kv Mv
  rw : Copy w w0.heap.size Aw kw Mw
structure Apart (w0 : World) (go gt gv gw : Nat) : Prop where
  o : w0.heap.size ≤ go
  t : w0.heap.size ≤ gt
  v : w0.heap.size ≤ gv
  w : w0.heap.size ≤ gw
  ot : go ≠ gt
  ov : go ≠ gv
  ow : go ≠ gw
  tv : gt ≠ gv
  tw : gt ≠ gw
  vw : gv ≠ gw
theorem Copy.by {w w' : World} {B g : Nat} {cs : Array Value} {A : Option Addr} {c : Nat} {l : List D.Dot} (h : Copy w B A c l) (hb : Blo w g 28 cs) (hg : w.grownBy w' (some g)) : Copy w' B A c l :=
  ⟨h.1, h.2.imp id fun h => h.grown hg (fun _ hb' e => h.blo hb (by decide) (hb'.trans e))⟩
section
variable {w0 w w' : World} {F : Nat → Int} {n : Nat} {M : List D.Dot} {go gt gv gw : Nat} {co ct cv cw cz : Array Value} {Bo : Nat} {Ao At Av Aw : Option Addr} {ko kt kv kw : Nat} {Mo Mt Mv Mw : List D.Dot}
theorem Four.new (h : Four w0 w go gt gv gw co ct cv cw Bo Ao ko Mo At kt Mt Av kv Mv Aw kw Mw) (hb : Below w.heap.size w w') : Four w0 w' go gt gv gw co ct cv cw Bo Ao ko Mo At kt Mt Av kv Mv Aw kw Mw :=
  ⟨below_new h.b hb, h.bo.new hb, h.bt.new hb, h.bv.new hb, h.bw.new hb, h.ro.new hb, h.rt.new hb, h.rv.new hb, h.rw.new hb⟩
theorem Four.own (h : Four w0 w go gt gv gw co ct cv cw Bo Ao ko Mo At kt Mt Av kv Mv Aw kw Mw) {Bo' : Nat} {Ao' : Option Addr} {ko' : Nat} {Mo' : List D.Dot} (hr : Copy w Bo' Ao' ko' Mo') : Four w0 w go gt gv gw co ct cv cw Bo' Ao' ko' Mo' At kt Mt Av kv Mv Aw kw Mw :=
  ⟨h.b, h.bo, h.bt, h.bv, h.bw, hr, h.rt, h.rv, h.rw⟩
theorem Copy.keeps {B : Nat} {A : Option Addr} {c : Nat} {l : List D.Dot} (h : Copy w B A c l) {k : Nat} (hk : KeepsRows w w' k) (hl : l.length ≤ k) : Copy w' B A c l := ⟨h.1, h.2.imp id fun h => hk _ _ _ _ h hl⟩
theorem Four.app (h : Four w0 w go gt gv gw co ct cv cw Bo Ao ko Mo At kt Mt Av kv Mv Aw kw Mw) {v : Value} {l : List D.Dot} (hrt : DRow w w0.heap.size v l) (hlt : ∀ b, v.ownBlock = some b → b < Bo) (hg : w.grownBy w' v.ownBlock) (hk : KeepsRows w w' l.length) (hv : Mv.length ≤ l.length) (hw : Mw.length ≤ l.length)
    {At' : Option Addr} {kt' : Nat} {Mt' : List D.Dot} (hn : Copy w' w0.heap.size At' kt' Mt') : Four w0 w' go gt gv gw co ct cv cw Bo Ao ko Mo At' kt' Mt' Av kv Mv Aw kw Mw :=
  ⟨h.b.grown hg h.b.size (fun k hk => (hrt.lt k hk).1), h.bo.grown hg (fun e => hrt.blo h.bo (by decide) e.symm), h.bt.grown hg (fun e => hrt.blo h.bt (by decide) e.symm), h.bv.grown hg (fun e => hrt.blo h.bv (by decide) e.symm), h.bw.grown hg (fun e => hrt.blo h.bw (by decide) e.symm),
    ⟨h.ro.1, h.ro.2.imp id fun hr => hr.grown hg (fun b hb e => by have h1 := (hr.lt b hb).1; have h2 := hlt b e.symm; omega)⟩, hn, h.rv.keeps hk hv, h.rw.keeps hk hw⟩
theorem Four.so (h : Four w0 w go gt gv gw co ct cv cw Bo Ao ko Mo At kt Mt Av kv Mv Aw kw Mw) (d : Apart w0 go gt gv gw) (hz : Blo w' go 28 cz) (hg : w.grownBy w' (some go)) : Four w0 w' go gt gv gw cz ct cv cw Bo Ao ko Mo At kt Mt Av kv Mv Aw kw Mw :=
  ⟨h.b.grown hg h.b.size (fun k hk => by injection hk with hk; have := d.o; omega), hz, h.bt.grown hg (fun e => by injection e with e; exact d.ot e.symm), h.bv.grown hg (fun e => by injection e with e; exact d.ov e.symm), h.bw.grown hg (fun e => by injection e with e; exact d.ow e.symm), h.ro.by h.bo hg, h.rt.by h.bo hg, h.rv.by h.bo hg, h.rw.by h.bo hg⟩
theorem Four.st (h : Four w0 w go gt gv gw co ct cv cw Bo Ao ko Mo At kt Mt Av kv Mv Aw kw Mw) (d : Apart w0 go gt gv gw) (hz : Blo w' gt 28 cz) (hg : w.grownBy w' (some gt)) : Four w0 w' go gt gv gw co cz cv cw Bo Ao ko Mo At kt Mt Av kv Mv Aw kw Mw :=
  ⟨h.b.grown hg h.b.size (fun k hk => by injection hk with hk; have := d.t; omega), h.bo.grown hg (fun e => by injection e with e; exact d.ot e), hz, h.bv.grown hg (fun e => by injection e with e; exact d.tv e.symm), h.bw.grown hg (fun e => by injection e with e; exact d.tw e.symm), h.ro.by h.bt hg, h.rt.by h.bt hg, h.rv.by h.bt hg, h.rw.by h.bt hg⟩
theorem Four.sv (h : Four w0 w go gt gv gw co ct cv cw Bo Ao ko Mo At kt Mt Av kv Mv Aw kw Mw) (d : Apart w0 go gt gv gw) (hz : Blo w' gv 28 cz) (hg : w.grownBy w' (some gv)) : Four w0 w' go gt gv gw co ct cz cw Bo Ao ko Mo At kt Mt Av kv Mv Aw kw Mw :=
  ⟨h.b.grown hg h.b.size (fun k hk => by injection hk with hk; have := d.v; omega), h.bo.grown hg (fun e => by injection e with e; exact d.ov e), h.bt.grown hg (fun e => by injection e with e; exact d.tv e), hz, h.bw.grown hg (fun e => by injection e with e; exact d.vw e.symm), h.ro.by h.bv hg, h.rt.by h.bv hg, h.rv.by h.bv hg, h.rw.by h.bv hg⟩
theorem Four.sw (h : Four w0 w go gt gv gw co ct cv cw Bo Ao ko Mo At kt Mt Av kv Mv Aw kw Mw) (d : Apart w0 go gt gv gw) (hz : Blo w' gw 28 cz) (hg : w.grownBy w' (some gw)) : Four w0 w' go gt gv gw co ct cv cz Bo Ao ko Mo At kt Mt Av kv Mv Aw kw Mw :=
  ⟨h.b.grown hg h.b.size (fun k hk => by injection hk with hk; have := d.w; omega), h.bo.grown hg (fun e => by injection e with e; exact d.ow e), h.bt.grown hg (fun e => by injection e with e; exact d.tw e), h.bv.grown hg (fun e => by injection e with e; exact d.vw e), hz, h.ro.by h.bw hg, h.rt.by h.bw hg, h.rv.by h.bw hg, h.rw.by h.bw hg⟩
end

set_option maxRecDepth 100000 in
set_option maxHeartbeats 8000000 in
theorem bends_main (F : Nat → Int) (A : Option Addr) (n c : Nat) (M : List D.Dot) (w : World) (hA : EvIn w A n c M) :
    Calls Try.prog 8 #[ev F A n c] w fun e w' => e = .returned (.bool true) ∧ Below w.heap.size w w' := by
  obtain ⟨hn, hnc, hcm, hr⟩ := hA
  have hnm : n ≤ maxLen := by omega
  obtain ⟨w1, hw1⟩ : ∃ W, w.alloc (.cells (ecs F A n c) 28) = W := ⟨_, rfl⟩
  obtain ⟨g1, hg1⟩ : ∃ g, g = w.heap.size := ⟨_, rfl⟩
  have hb1 : Below w.heap.size w w1 := by rw [← hw1]; exact b_alloc _ _
  have hX1 : Blo w1 g1 28 (ecs F A n c) := by rw [← hw1, hg1]; exact Blo.made _ _ _
  have HW := Lib.hid hw1
  have HG1 := Lib.hid hg1
  have HN := Lib.hid hn
  have hg1' : w.heap.size ≤ g1 := by omega
  clear hw1 hg1 hn hnc hcm
  go_enter Try.func8, Try.ntmps8
  go_wp2_with fail
  rw [HW.out, ← HG1.out]
  refine (evalive_any _).mono ?_
  rintro e w2 ⟨rfl, hb2⟩
  have hb02 := below_new hb1 hb2
  have hX2 := hX1.new hb2
  have hr2 := hr.new hb02
  clear hX1 hb1 hb2
  obtain ⟨z0, z1, z2, z3, z4, z5, z6, z7, z8, z9, z10, z11, z12, z13⟩ := set14 hX2
  by_cases h90 : 90 < n
  · have h90' : (90 : Int) < (n : Int) := by omega
    go_wp2
    go_ret
    exact ⟨rfl, hb02⟩
  have h90' : ¬ (90 : Int) < (n : Int) := by omega
  have hright := evright_any _ F A n c M w2 HN.out hr2 hnm
  go_wp2_with fail
  refine hright.mono ?_
  rintro e w3 ⟨rfl, hb3⟩
  have hb03 := below_new hb02 hb3
  have hX3 := hX2.new hb3
  have hr3 := hr2.new hb3
  clear hright hX2 hr2 hb02 hb3 z0 z1 z2 z3 z4 z5 z6 z7 z8 z9 z10 z11 z12 z13
  cases hq : E.right F M with
  | false =>
    clear hq
    go_wp2
    go_ret
    exact ⟨rfl, hb03⟩
  | true =>
    have HQ := Lib.hid hq
    clear hq
    have HL1 : Hid (∀ V, Grows w3 V → _) := Lib.hid (fun V hV => set14 (hX3.new hV))
    have HCP : Hid (∀ V, Grows w3 V → Calls Try.prog 31 #[ev F A n c] V (EvPost F M V)) := Lib.hid (fun V hV => ecopy_any _ F A n c M V HN.out (hr3.new hV) (by omega))
    go_wp2_with fail
    refine wp_famF (n := 12) (size := 100) (D := [26, 27, 28, 29, 30, 31, 32, 33, 3, 4, 5, 6]) [] [(26, isV (ev F A n c)), (27, copyE F n w3.heap.size M), (28, isV (ev F A n c)), (29, copyE F n w3.heap.size M), (30, isV (ev F A n c)), (31, copyE F n w3.heap.size M), (32, isV (ev F A n c)), (33, copyE F n w3.heap.size M), (3, ptrE w3.heap.size), (4, ptrE w3.heap.size), (5, ptrE w3.heap.size), (6, ptrE w3.heap.size)] (by kernel_rfl) (by rfl) (by kernel_rfl) (fun _ _ d _ _ h => by cases d <;> exact h) ?_ ?_
    · simp only [List.take_succ_cons, List.take_zero, famAllF]
      repeat' apply And.intro
      · rw [if_neg (by decide)]
        intro f V hg hl
        obtain ⟨z0, z1, z2, z3, z4, z5, z6, z7, z8, z9, z10, z11, z12, z13⟩ := HL1.out V hg
        simp [Oper.looksAt, Op.operands, Call.operands, famAt, famOf, isV] at hl
        simp [famWants, boolIs_bool, boolIs_undef, execOp, rho, go_sem, hl, z0, z1, z2, z3, z4, z5, z6, z7, z8, z9, z10, z11, z12, z13, famUpon, famOf, isV, isAlloc, Grows.refl]
      · rw [if_neg (by decide)]
        intro f V hg hl
        simp [Oper.looksAt, Op.operands, Call.operands, famAt, famOf, isV] at hl
        simp [famWants, boolIs_bool, boolIs_undef, execOp, rho, go_sem, hl, famUpon, famOf, isV, isAlloc, Grows.refl]
        refine (HCP.out V hg).mono ?_
        rintro e w'' ⟨A', c', rfl, hc, hb⟩
        exact ⟨_, rfl, hb, A', c', by rw [HN.out], ⟨hc.1, hc.2.imp id fun h => h.mono (Below.size hg)⟩⟩
      · rw [if_neg (by decide)]
        intro f V hg hl
        obtain ⟨z0, z1, z2, z3, z4, z5, z6, z7, z8, z9, z10, z11, z12, z13⟩ := HL1.out V hg
        simp [Oper.looksAt, Op.operands, Call.operands, famAt, famOf, isV] at hl
        simp [famWants, boolIs_bool, boolIs_undef, execOp, rho, go_sem, hl, z0, z1, z2, z3, z4, z5, z6, z7, z8, z9, z10, z11, z12, z13, famUpon, famOf, isV, isAlloc, Grows.refl]
      · rw [if_neg (by decide)]
        intro f V hg hl
        simp [Oper.looksAt, Op.operands, Call.operands, famAt, famOf, isV] at hl
        simp [famWants, boolIs_bool, boolIs_undef, execOp, rho, go_sem, hl, famUpon, famOf, isV, isAlloc, Grows.refl]
        refine (HCP.out V hg).mono ?_
        rintro e w'' ⟨A', c', rfl, hc, hb⟩
        exact ⟨_, rfl, hb, A', c', by rw [HN.out], ⟨hc.1, hc.2.imp id fun h => h.mono (Below.size hg)⟩⟩
      · rw [if_neg (by decide)]
        intro f V hg hl
        obtain ⟨z0, z1, z2, z3, z4, z5, z6, z7, z8, z9, z10, z11, z12, z13⟩ := HL1.out V hg
        simp [Oper.looksAt, Op.operands, Call.operands, famAt, famOf, isV] at hl
        simp [famWants, boolIs_bool, boolIs_undef, execOp, rho, go_sem, hl, z0, z1, z2, z3, z4, z5, z6, z7, z8, z9, z10, z11, z12, z13, famUpon, famOf, isV, isAlloc, Grows.refl]
      · rw [if_neg (by decide)]
        intro f V hg hl
        simp [Oper.looksAt, Op.operands, Call.operands, famAt, famOf, isV] at hl
        simp [famWants, boolIs_bool, boolIs_undef, execOp, rho, go_sem, hl, famUpon, famOf, isV, isAlloc, Grows.refl]
        refine (HCP.out V hg).mono ?_
        rintro e w'' ⟨A', c', rfl, hc, hb⟩
        exact ⟨_, rfl, hb, A', c', by rw [HN.out], ⟨hc.1, hc.2.imp id fun h => h.mono (Below.size hg)⟩⟩
      · rw [if_neg (by decide)]
        intro f V hg hl
        obtain ⟨z0, z1, z2, z3, z4, z5, z6, z7, z8, z9, z10, z11, z12, z13⟩ := HL1.out V hg
        simp [Oper.looksAt, Op.operands, Call.operands, famAt, famOf, isV] at hl
        simp [famWants, boolIs_bool, boolIs_undef, execOp, rho, go_sem, hl, z0, z1, z2, z3, z4, z5, z6, z7, z8, z9, z10, z11, z12, z13, famUpon, famOf, isV, isAlloc, Grows.refl]
      · rw [if_neg (by decide)]
        intro f V hg hl
        simp [Oper.looksAt, Op.operands, Call.operands, famAt, famOf, isV] at hl
        simp [famWants, boolIs_bool, boolIs_undef, execOp, rho, go_sem, hl, famUpon, famOf, isV, isAlloc, Grows.refl]
        refine (HCP.out V hg).mono ?_
        rintro e w'' ⟨A', c', rfl, hc, hb⟩
        exact ⟨_, rfl, hb, A', c', by rw [HN.out], ⟨hc.1, hc.2.imp id fun h => h.mono (Below.size hg)⟩⟩
      · rw [if_neg (by decide)]
        intro f V hg hl
        simp [Oper.looksAt, Op.operands, Call.operands, famAt, famOf, isV] at hl
        simp [famWants, boolIs_bool, boolIs_undef, execOp, rho, go_sem, hl, Grows.alloc, famUpon, famOf, isV, isAlloc, Grows.refl]
        exact ⟨_, rfl, Blo.made _ _ _, Below.size hg⟩
      · rw [if_neg (by decide)]
        intro f V hg hl
        simp [Oper.looksAt, Op.operands, Call.operands, famAt, famOf, isV] at hl
        simp [famWants, boolIs_bool, boolIs_undef, execOp, rho, go_sem, hl, Grows.alloc, famUpon, famOf, isV, isAlloc, Grows.refl]
        exact ⟨_, rfl, Blo.made _ _ _, Below.size hg⟩
      · rw [if_neg (by decide)]
        intro f V hg hl
        simp [Oper.looksAt, Op.operands, Call.operands, famAt, famOf, isV] at hl
        simp [famWants, boolIs_bool, boolIs_undef, execOp, rho, go_sem, hl, Grows.alloc, famUpon, famOf, isV, isAlloc, Grows.refl]
        exact ⟨_, rfl, Blo.made _ _ _, Below.size hg⟩
      · rw [if_neg (by decide)]
        intro f V hg hl
        simp [Oper.looksAt, Op.operands, Call.operands, famAt, famOf, isV] at hl
        simp [famWants, boolIs_bool, boolIs_undef, execOp, rho, go_sem, hl, Grows.alloc, famUpon, famOf, isV, isAlloc, Grows.refl]
        exact ⟨_, rfl, Blo.made _ _ _, Below.size hg⟩
      · trivial
    · intro u V hg hu hdis
      obtain ⟨Ao, co, e27, hCo⟩ : ∃ A c, u 27 = ev F A n c ∧ Copy V w3.heap.size A c M := hu 27 (by decide)
      obtain ⟨At, ct, e29, hCt⟩ : ∃ A c, u 29 = ev F A n c ∧ Copy V w3.heap.size A c M := hu 29 (by decide)
      obtain ⟨Av, cv, e31, hCv⟩ : ∃ A c, u 31 = ev F A n c ∧ Copy V w3.heap.size A c M := hu 31 (by decide)
      obtain ⟨Aw, cw, e33, hCw⟩ : ∃ A c, u 33 = ev F A n c ∧ Copy V w3.heap.size A c M := hu 33 (by decide)
      obtain ⟨go, e3, hBo, hgo⟩ : ∃ g, u 3 = .pointer (some ⟨g, 0, none⟩) ∧ Blo V g 28 (ecs (fun _ => 0) none 0 0) ∧ w3.heap.size ≤ g := hu 3 (by decide)
      obtain ⟨gt, e4, hBt, hgt⟩ : ∃ g, u 4 = .pointer (some ⟨g, 0, none⟩) ∧ Blo V g 28 (ecs (fun _ => 0) none 0 0) ∧ w3.heap.size ≤ g := hu 4 (by decide)
      obtain ⟨gv, e5, hBv, hgv⟩ : ∃ g, u 5 = .pointer (some ⟨g, 0, none⟩) ∧ Blo V g 28 (ecs (fun _ => 0) none 0 0) ∧ w3.heap.size ≤ g := hu 5 (by decide)
      obtain ⟨gw, e6, hBw, hgw⟩ : ∃ g, u 6 = .pointer (some ⟨g, 0, none⟩) ∧ Blo V g 28 (ecs (fun _ => 0) none 0 0) ∧ w3.heap.size ≤ g := hu 6 (by decide)
      have dot : go ≠ gt := fun e => hdis 8 9 3 4 (by omega) (by omega) (by omega) (by rfl) (by rfl) (by rfl) (by rfl) (by rw [e3, e4, e])
      have dov : go ≠ gv := fun e => hdis 8 10 3 5 (by omega) (by omega) (by omega) (by rfl) (by rfl) (by rfl) (by rfl) (by rw [e3, e5, e])
      have dow : go ≠ gw := fun e => hdis 8 11 3 6 (by omega) (by omega) (by omega) (by rfl) (by rfl) (by rfl) (by rfl) (by rw [e3, e6, e])
      have dtv : gt ≠ gv := fun e => hdis 9 10 4 5 (by omega) (by omega) (by omega) (by rfl) (by rfl) (by rfl) (by rfl) (by rw [e4, e5, e])
      have dtw : gt ≠ gw := fun e => hdis 9 11 4 6 (by omega) (by omega) (by omega) (by rfl) (by rfl) (by rfl) (by rfl) (by rw [e4, e6, e])
      have dvw : gv ≠ gw := fun e => hdis 10 11 5 6 (by omega) (by omega) (by omega) (by rfl) (by rfl) (by rfl) (by rfl) (by rw [e5, e6, e])
      simp only [List.drop_succ_cons, List.drop_zero, fill, Act.put, List.setIfInBounds_toArray, List.set_cons_zero, List.set_cons_succ, e27, e29, e31, e33, e3, e4, e5, e6]
      have hS : Four w3 V go gt gv gw (ecs (fun _ => 0) none 0 0) (ecs (fun _ => 0) none 0 0) (ecs (fun _ => 0) none 0 0) (ecs (fun _ => 0) none 0 0) w3.heap.size Ao co M At ct M Av cv M Aw cw M := ⟨hg, hBo, hBt, hBv, hBw, hCo, hCt, hCv, hCw⟩
      have hD : Apart w3 go gt gv gw := ⟨hgo, hgt, hgv, hgw, dot, dov, dow, dtv, dtw, dvw⟩
      clear hu hdis e27 e29 e31 e33 e3 e4 e5 e6 hCo hCt hCv hCw dot dov dow dtv dtw dvw hgo hgt hgv hgw hg HL1 HCP hBo hBt hBv hBw
      go_wp2_with (refine wpList_sete _ rfl _ _ rfl go _ rfl F Ao n co rfl hS.bo rfl ?_)
      intro w4 hZ hg4
      replace hS := hS.so hD hZ hg4
      clear hZ hg4
      go_wp2_with (refine wpList_sete _ rfl _ _ rfl gt _ rfl F At n ct rfl hS.bt rfl ?_)
      intro w5 hZ hg5
      replace hS := hS.st hD hZ hg5
      clear hZ hg5
      go_wp2_with (refine wpList_sete _ rfl _ _ rfl gv _ rfl F Av n cv rfl hS.bv rfl ?_)
      intro w6 hZ hg6
      replace hS := hS.sv hD hZ hg6
      clear hZ hg6
      go_wp2_with (refine wpList_sete _ rfl _ _ rfl gw _ rfl F Aw n cw rfl hS.bw rfl ?_)
      intro w7 hZ hg7
      replace hS := hS.sw hD hZ hg7
      clear hZ hg7
      have hX7 := hX3.new hS.b
      obtain ⟨z0, z1, z2, z3, z4, z5, z6, z7, z8, z9, z10, z11, z12, z13⟩ := set14 hX7
      have o13 : (w7.alloc (.cells #[.int .i64 (F 0), .int .i64 (F 1)] 23)).cell? ⟨go, 13, none⟩ = some (.slice Ao n co) := by simpa using (hS.bo.alloc _).cell 13
      have hlit : DRow (w7.alloc (.cells #[.int .i64 (F 0), .int .i64 (F 1)] 23)) w7.heap.size (.slice (some ⟨w7.heap.size, 0, none⟩) 1 1) [(F 0, F 1)] :=
        World.ownsRow_lit (base := w7.heap.size) (e := 23) (size := 2) w7 #[.int .i64 (F 0), .int .i64 (F 1)] 1 (Nat.le_refl _) (by unfold maxLen; omega) (by simp)
      have hsz7 := hS.b.size
      have hAtl : ∀ b, (Value.slice At n ct).ownBlock = some b → M ≠ [] → b < w7.heap.size := fun b hb hne => by
        rcases hS.rt.2 with h | h
        · exact absurd h hne
        · rw [HN.out] at h; exact (h.lt b hb).2
      have HAtl := Lib.hid hAtl
      clear hAtl
      go_wp2_with (at_builtin; refine wpList_dapp _ rfl _ _ rfl w7.heap.size _ [(F 0, F 1)] rfl hlit _ Ao n co M rfl HN.out ((hS.ro.new (b_alloc _ _)).rds) (by simp; omega) (by simp) ?_)
      intro v8 w8 hrow8 hg8 hv8
      obtain ⟨A8, c8, rfl, hc8, _⟩ := hrow8.form
      have hb78 : Below w7.heap.size w7 w8 := by
        have h1 := b_alloc w7 (.cells #[.int .i64 (F 0), .int .i64 (F 1)] 23)
        exact h1.grown hg8 h1.size (fun k hk => by simp [Value.ownBlock] at hk; omega)
      have hS8 := (hS.new hb78).own (Bo' := w7.heap.size) (Ao' := A8) (ko' := c8) (Mo' := (F 0, F 1) :: M) ⟨hc8, .inr hrow8⟩
      have o8 : w8.cell? ⟨go, 13, none⟩ = some (.slice Ao n co) := by simpa using hS8.bo.cell 13
      have f8 := hS8.bo.frozen 13
      obtain ⟨N8, hN8⟩ : ∃ N, N = ((F 0, F 1) :: M).length := ⟨_, rfl⟩
      have HN8 := Lib.hid hN8
      rw [← hN8]
      have hN8' : N8 ≤ 1000 := by rw [hN8, List.length_cons, HN.out]; omega
      have hg9 : w8.grownBy (w8.setCell ⟨go, 13, none⟩ (.slice A8 N8 c8)) (some go) := gb_set (World.grownBy.refl _ _) (.inl rfl) _
      have hZ9 := hS8.bo.put 13 (.slice A8 N8 c8)
      rw [ecs_more] at hZ9
      have hS9 := hS8.so hD hZ9 hg9
      obtain ⟨w9, hw9⟩ : ∃ W, w8.setCell ⟨go, 13, none⟩ (.slice A8 N8 c8) = W := ⟨_, rfl⟩
      rw [hw9] at hS9
      have HW9 := Lib.hid hw9
      obtain ⟨B7, hB7⟩ : ∃ B, B = w7.heap.size := ⟨_, rfl⟩
      rw [← hB7] at hS9 HAtl
      have t9 : w9.cell? ⟨gt, 13, none⟩ = some (.slice At n ct) := by simpa using hS9.bt.cell 13
      clear hw9 hg9 hZ9 hS8 hS hg8 hv8 hlit hb78 o13 hN8 hX7 z0 z1 z2 z3 z4 z5 z6 z7 z8 z9 z10 z11 z12 z13 hrow8 hc8 hB7
      go_upto_region 7 with fail
      rw [HW9.out]
      clear o8 f8 HW9
      go_upto_if 44 with fail
      go_cut [] (fun wx => ∃ (Ft : Nat → Int) (Ax : Option Addr) (Nx kx : Nat) (Mx : List D.Dot), Hid (E.right Ft Mx = false) ∧ Hid (Mx.length = Nx) ∧ Nx ≤ 1000 ∧ Four w3 wx go gt gv gw (ecs F A8 N8 c8) (ecs Ft Ax Nx kx) (ecs F Av n cv) (ecs F Aw n cw) B7 A8 c8 ((F 0, F 1) :: M) Ax kx Mx Av cv M Aw cw M)
      case first =>
        by_cases hn0 : 0 < n
        · have hn0' : (0 : Int) < (n : Int) := by omega
          have hlM : n - 1 < M.length := by rw [HN.out]; omega
          have hMne : M ≠ [] := fun e => by rw [e] at hlM; simp at hlM
          have hRt : DRow w9 w3.heap.size (.slice At n ct) M := by
            rcases hS9.rt.2 with h | h
            · exact absurd h hMne
            · rw [HN.out] at h; exact h
          obtain ⟨ad, rfl, _, d1, d2⟩ := hRt.rdsT.dot hlM
          obtain ⟨x, hx⟩ : ∃ x, x = M[n - 1] := ⟨_, rfl⟩
          rw [← hx] at d1 d2
          have HR : Hid (E.right F (M ++ [x]) = false) := Lib.hid (by
            have e : M = M.take (n - 1) ++ [x] := by
              have h1 := List.take_succ_eq_append_getElem hlM
              rw [List.take_of_length_le (by rw [HN.out]; omega)] at h1
              rw [hx]; exact h1
            rw [e]
            exact E.bend_twice F _ x)
          obtain ⟨x1, x2⟩ := x
          simp only at d1 d2
          have D1 : Hid (∀ V, Grows w9 V → V.cell? (ad.add ((n - 1) * 2)) = some (.int .i64 x1)) := Lib.hid (fun V hV => cell_up d1 hV)
          have D2 : Hid (∀ V, Grows w9 V → V.cell? ⟨(ad.add ((n - 1) * 2)).block, (ad.add ((n - 1) * 2)).off + 1, none⟩ = some (.int .i64 x2)) := Lib.hid (fun V hV => cell_up d2 hV)
          have T9 : Hid (∀ V, Grows w9 V → V.cell? ⟨gt, 13, none⟩ = some (.slice (some ad) n ct)) := Lib.hid (fun V hV => by simpa using (hS9.bt.new hV).cell 13)
          have hw2 : IntKind.i64.wrap ((n : Int) - 1) = (n : Int) - 1 := IntWalk.i64_in _ (by omega)
          have hi3 : (n : Int) - 1 < (n : Int) := by omega
          have hi4 : (1 : Int) ≤ (n : Int) := by omega
          have hi5 : ((n : Int) - 1).toNat = n - 1 := by omega
          clear hx d1 d2
          go_wp2_with fail
          refine wp_fam (n := 11) (size := 100) (D := [45, 46, 47, 48, 49, 50, 51, 52, 53, 54, 55]) [(45, isV (.pointer (some ⟨gt, 13, none⟩))), (46, isV (.slice (some ad) n ct)), (47, isV (.pointer (some ⟨gt, 13, none⟩))), (48, isV (.slice (some ad) n ct)), (49, isV (.pointer (some ⟨gt, 13, none⟩))), (50, isV (.slice (some ad) n ct)), (51, isV (.int .i64 n)), (52, isV (.int .i64 ((n : Int) - 1))), (53, isV (.pointer (some (ad.add ((n - 1) * 2))))), (54, isV (.agg #[.int .i64 x1, .int .i64 x2])), (55, oneE x1 x2)] (by kernel_rfl) (by rfl) (by kernel_rfl) ?_ ?_
          · simp only [List.take_succ_cons, List.take_zero, famAll]
            repeat' apply And.intro
            · intro f V hg hl
              simp [Oper.looksAt, Op.operands, Call.operands, famAt, famOf, isV] at hl
              simp [famWants, boolIs_bool, boolIs_undef, execOp, rho, go_sem, hl, famUpon, famOf, isV, Grows.refl]
            · intro f V hg hl
              have k := T9.out V hg
              simp [Oper.looksAt, Op.operands, Call.operands, famAt, famOf, isV] at hl
              simp [famWants, boolIs_bool, boolIs_undef, execOp, rho, go_sem, hl, k, famUpon, famOf, isV, Grows.refl]
            · intro f V hg hl
              simp [Oper.looksAt, Op.operands, Call.operands, famAt, famOf, isV] at hl
              simp [famWants, boolIs_bool, boolIs_undef, execOp, rho, go_sem, hl, famUpon, famOf, isV, Grows.refl]
            · intro f V hg hl
              have k := T9.out V hg
              simp [Oper.looksAt, Op.operands, Call.operands, famAt, famOf, isV] at hl
              simp [famWants, boolIs_bool, boolIs_undef, execOp, rho, go_sem, hl, k, famUpon, famOf, isV, Grows.refl]
            · intro f V hg hl
              simp [Oper.looksAt, Op.operands, Call.operands, famAt, famOf, isV] at hl
              simp [famWants, boolIs_bool, boolIs_undef, execOp, rho, go_sem, hl, famUpon, famOf, isV, Grows.refl]
            · intro f V hg hl
              have k := T9.out V hg
              simp [Oper.looksAt, Op.operands, Call.operands, famAt, famOf, isV] at hl
              simp [famWants, boolIs_bool, boolIs_undef, execOp, rho, go_sem, hl, k, famUpon, famOf, isV, Grows.refl]
            · intro f V hg hl
              simp [Oper.looksAt, Op.operands, Call.operands, famAt, famOf, isV] at hl
              simp [famWants, boolIs_bool, boolIs_undef, execOp, rho, go_sem, hl, famUpon, famOf, isV, Grows.refl]
            · intro f V hg hl
              simp [Oper.looksAt, Op.operands, Call.operands, famAt, famOf, isV] at hl
              simp [famWants, boolIs_bool, boolIs_undef, execOp, rho, go_sem, hl, hw2, famUpon, famOf, isV, Grows.refl]
            · intro f V hg hl
              simp [Oper.looksAt, Op.operands, Call.operands, famAt, famOf, isV] at hl
              simp [famWants, boolIs_bool, boolIs_undef, execOp, rho, go_sem, hl, hi3, hi4, hi5, hn0, hn0', famUpon, famOf, isV, Grows.refl]
            · intro f V hg hl
              have k1 := D1.out V hg
              have k2 := D2.out V hg
              simp [Oper.looksAt, Op.operands, Call.operands, famAt, famOf, isV] at hl
              simp [famWants, boolIs_bool, boolIs_undef, execOp, rho, go_sem, hl, k1, k2, famUpon, famOf, isV, Grows.refl]
            · intro f V hg hl
              simp [Oper.looksAt, Op.operands, Call.operands, famAt, famOf, isV] at hl
              simp [famWants, boolIs_bool, boolIs_undef, execOp, rho, go_sem, hl, Grows.alloc, famUpon, famOf, isV, Grows.refl]
              exact ⟨_, rfl, Blo.made _ _ _⟩
            · trivial
          · intro u V hg hu
            have e46 : u 46 = .slice (some ad) n ct := hu 46 (by decide)
            obtain ⟨gl, e55, hBl⟩ : ∃ g, u 55 = .slice (some ⟨g, 0, none⟩) 1 1 ∧ Blo V g 23 #[.int .i64 x1, .int .i64 x2] := hu 55 (by decide)
            simp only [List.drop_succ_cons, List.drop_zero, fill, Act.put, List.setIfInBounds_toArray, List.set_cons_zero, List.set_cons_succ, e46, e55]
            have hSV := hS9.new hg
            have hRV := hRt.new hg
            have hsV := hSV.b.size
            clear hu e46 e55 D1 D2 T9 hw2 hi3 hi4 hi5
            go_wp2_with (at_builtin; refine wpList_dapp_keep _ rfl _ _ rfl w3.heap.size _ M rfl hRV (fun _ => True) ⟨gl, 0, none⟩ 1 1 [(x1, x2)] rfl rfl (blo_rds (t := 23) hBl) (by rw [HN.out]; omega) hsV (by omega) ?_)
            intro v10 w10 hrow10 hg10 hk10
            obtain ⟨A10, c10, rfl, hc10, _⟩ := hrow10.form
            have hS10 := hSV.app hRV (fun b hb => HAtl.out b hb hMne) hg10 hk10 (Nat.le_refl _) (Nat.le_refl _) (At' := A10) (kt' := c10) (Mt' := M ++ [(x1, x2)]) ⟨hc10, .inr hrow10⟩
            have t10 : w10.cell? ⟨gt, 13, none⟩ = some (.slice (some ad) n ct) := by simpa using hS10.bt.cell 13
            have f10 := hS10.bt.frozen 13
            obtain ⟨N10, hN10⟩ : ∃ N, N = (M ++ [(x1, x2)]).length := ⟨_, rfl⟩
            have HN10 : Hid ((M ++ [(x1, x2)]).length = N10) := Lib.hid hN10.symm
            rw [← hN10]
            have hN10' : N10 ≤ 1000 := by rw [hN10, List.length_append, HN.out]; simp; omega
            have hg11 : w10.grownBy (w10.setCell ⟨gt, 13, none⟩ (.slice A10 N10 c10)) (some gt) := gb_set (World.grownBy.refl _ _) (.inl rfl) _
            have hZ11 := hS10.bt.put 13 (.slice A10 N10 c10)
            rw [ecs_more] at hZ11
            have hS11 := hS10.st hD hZ11 hg11
            clear hN10 hg11 hZ11 hrow10 hc10 hg10 hk10
            go_wp2_with fail
            go_meet
            exact ⟨F, A10, N10, c10, M ++ [(x1, x2)], HR, HN10, hN10', hS11⟩
        · have hn0' : ¬ (0 : Int) < (n : Int) := by omega
          have x1 : w9.cell? ⟨gt, 1, none⟩ = some (.int .i64 (F 1)) := by simpa using hS9.bt.cell 1
          have fx1 := hS9.bt.frozen 1
          have hg10 : w9.grownBy (w9.setCell ⟨gt, 1, none⟩ (.int .i64 0)) (some gt) := gb_set (World.grownBy.refl _ _) (.inl rfl) _
          have hZ10 := hS9.bt.put 1 (.int .i64 0)
          rw [ecs_set _ _ _ _ (by omega)] at hZ10
          have hS10 := hS9.st hD hZ10 hg10
          have HR : Hid (E.right (updE F 1 0) M = false) := Lib.hid (E.bend_seq M (by simp [updE]))
          clear hg10 hZ10
          go_wp2_with fail
          go_meet
          exact ⟨updE F 1 0, At, n, ct, M, HR, HN, by omega, hS10⟩
      case rest =>
      obtain ⟨Ft, Ax, Nx, kx, Mx, HRx, HNx, hNx, hS10⟩ := hcut
      have v5 : wc.cell? ⟨gv, 5, none⟩ = some (.int .i64 (F 5)) := by simpa using hS10.bv.cell 5
      have fv5 := hS10.bv.frozen 5
      have hg11 : wc.grownBy (wc.setCell ⟨gv, 5, none⟩ (.int .i64 (-1))) (some gv) := gb_set (World.grownBy.refl _ _) (.inl rfl) _
      have hZ11 := hS10.bv.put 5 (.int .i64 (-1))
      rw [ecs_set _ _ _ _ (by omega)] at hZ11
      have hS11 := hS10.sv hD hZ11 hg11
      obtain ⟨w11, hw11⟩ : ∃ W, wc.setCell ⟨gv, 5, none⟩ (.int .i64 (-1)) = W := ⟨_, rfl⟩
      rw [hw11] at hS11
      have HW11 := Lib.hid hw11
      clear hg11 hZ11 hS10 hw11 t9 hS9
      go_upto_region 11 with fail
      rw [HW11.out]
      clear v5 fv5 HW11
      have u4 : w11.cell? ⟨gw, 4, none⟩ = some (.int .i64 (F 4)) := by simpa using hS11.bw.cell 4
      have fu4 := hS11.bw.frozen 4
      have hg12 : w11.grownBy (w11.setCell ⟨gw, 4, none⟩ (.int .i64 8)) (some gw) := gb_set (World.grownBy.refl _ _) (.inl rfl) _
      have hZ12 := hS11.bw.put 4 (.int .i64 8)
      rw [ecs_set _ _ _ _ (by omega)] at hZ12
      have hS12 := hS11.sw hD hZ12 hg12
      obtain ⟨w12, hw12⟩ : ∃ W, w11.setCell ⟨gw, 4, none⟩ (.int .i64 8) = W := ⟨_, rfl⟩
      rw [hw12] at hS12
      have HW12 := Lib.hid hw12
      clear hg12 hZ12 hS11 hw12
      go_upto_region 12 with fail
      rw [HW12.out]
      clear u4 fu4 HW12
      obtain ⟨Fv, hFv⟩ : ∃ G, G = updE F 5 (-1) := ⟨_, rfl⟩
      obtain ⟨Fw, hFw⟩ : ∃ G, G = updE F 4 8 := ⟨_, rfl⟩
      rw [← hFv, ← hFw] at hS12
      have HRv : Hid (E.right Fv M = false) := Lib.hid (E.bend_value M (by rw [hFv]; simp [updE]))
      have HRw : Hid (E.right Fw M = false) := Lib.hid (E.bend_work M (by rw [hFw]; simp [updE]))
      have HRo : Hid (E.right F ((F 0, F 1) :: M) = false) := Lib.hid (E.bend_own F M)
      clear hFv hFw
      obtain ⟨o0, o1, o2, o3, o4, o5, o6, o7, o8, o9, o10, o11, o12, o13⟩ := set14 hS12.bo
      obtain ⟨t0, t1, t2, t3, t4, t5, t6, t7, t8, t9, t10, t11, t12, t13⟩ := set14 hS12.bt
      obtain ⟨v0, v1, v2, v3, v4, v5, v6, v7, v8, v9, v10, v11, v12, v13⟩ := set14 hS12.bv
      obtain ⟨u0, u1, u2, u3, u4, u5, u6, u7, u8, u9, u10, u11, u12, u13⟩ := set14 hS12.bw
      have key : ∀ i : Nat, i < 4 → ∃ (G : Nat → Int) (Ag : Option Addr) (Ng cg : Nat) (Mg : List D.Dot), (∀ W, (Instr.index 59 (.agg #[.int .i64 (F 0), .int .i64 (F 1), .int .i64 (F 2), .int .i64 (F 3), .int .i64 (F 4), .int .i64 (F 5), .int .i64 (F 6), .int .i64 (F 7), .int .i64 (F 8), .int .i64 (F 9), .int .i64 (F 10), .int .i64 (F 11), .int .i64 (F 12), .slice A8 N8 c8, .int .i64 (Ft 0), .int .i64 (Ft 1), .int .i64 (Ft 2), .int .i64 (Ft 3), .int .i64 (Ft 4), .int .i64 (Ft 5), .int .i64 (Ft 6), .int .i64 (Ft 7), .int .i64 (Ft 8), .int .i64 (Ft 9), .int .i64 (Ft 10), .int .i64 (Ft 11), .int .i64 (Ft 12), .slice Ax Nx kx, .int .i64 (Fv 0), .int .i64 (Fv 1), .int .i64 (Fv 2), .int .i64 (Fv 3), .int .i64 (Fv 4), .int .i64 (Fv 5), .int .i64 (Fv 6), .int .i64 (Fv 7), .int .i64 (Fv 8), .int .i64 (Fv 9), .int .i64 (Fv 10), .int .i64 (Fv 11), .int .i64 (Fv 12), .slice Av n cv, .int .i64 (Fw 0), .int .i64 (Fw 1), .int .i64 (Fw 2), .int .i64 (Fw 3), .int .i64 (Fw 4), .int .i64 (Fw 5), .int .i64 (Fw 6), .int .i64 (Fw 7), .int .i64 (Fw 8), .int .i64 (Fw 9), .int .i64 (Fw 10), .int .i64 (Fw 11), .int .i64 (Fw 12), .slice Aw n cw]) (.int .i64 (i : Int))).run Try.prog W = .ok (ev G Ag Ng cg) W) ∧ E.right G Mg = false ∧ Mg.length = Ng ∧ Ng ≤ 1000 ∧ Rds w12 (fun _ => True) Ag (dvs Mg) := fun i hi => by
        rcases i with _ | _ | _ | _ | i
        · exact ⟨F, A8, N8, c8, (F 0, F 1) :: M, fun W => by kernel_rfl, HRo.out, HN8.out.symm, hN8', hS12.ro.rds.mono fun _ _ => trivial⟩
        · exact ⟨Ft, Ax, Nx, kx, Mx, fun W => by kernel_rfl, HRx.out, HNx.out, hNx, hS12.rt.rds.mono fun _ _ => trivial⟩
        · exact ⟨Fv, Av, n, cv, M, fun W => by kernel_rfl, HRv.out, HN.out, by omega, hS12.rv.rds.mono fun _ _ => trivial⟩
        · exact ⟨Fw, Aw, n, cw, M, fun W => by kernel_rfl, HRw.out, HN.out, by omega, hS12.rw.rds.mono fun _ _ => trivial⟩
        · omega
      have KEY := Lib.hid key
      have hX12 := hX3.new hS12.b
      have hr12 := hr3.new hS12.b
      have hb12 := below_new hb03 hS12.b
      clear key
      go_wp2_with fail
      clear o0 o1 o2 o3 o4 o5 o6 o7 o8 o9 o10 o11 o12 o13 t0 t1 t2 t3 t4 t5 t6 t7 t8 t9 t10 t11 t12 t13 v0 v1 v2 v3 v4 v5 v6 v7 v8 v9 v10 v11 v12 v13 u0 u1 u2 u3 u4 u5 u6 u7 u8 u9 u10 u11 u12 u13
      go_loopw [67] (fun iv wr => ∃ i : Nat, iv = .int .i64 i ∧ i ≤ 4 ∧ Below w12.heap.size w12 wr) (fun iv _ => 4 - (intOf iv).toNat)
      case atStart => exact ⟨0, rfl, by omega, Below.refl _ _⟩
      case round =>
        obtain ⟨i, rfl, hi, hbr⟩ := hrel
        by_cases hlt : i < 4
        · obtain ⟨G, Ag, Ng, cg, Mg, hix, hRg, hNg, hNl, hrg⟩ := KEY.out i hlt
          obtain ⟨w13, hw13⟩ : ∃ W, wr.alloc (.cells (ecs G Ag Ng cg) 28) = W := ⟨_, rfl⟩
          obtain ⟨gx, hgx⟩ : ∃ q, q = wr.heap.size := ⟨_, rfl⟩
          have hb13 : Below wr.heap.size wr w13 := by rw [← hw13]; exact b_alloc _ _
          have hX13 : Blo w13 gx 28 (ecs G Ag Ng cg) := by rw [← hw13, hgx]; exact Blo.made _ _ _
          have hrg13 := (hrg.new hbr).new hb13
          have hput := evput_any _ G Ag Ng cg Mg w13 hNg hrg13 (by unfold maxLen; omega)
          have e2 : E.putE G Mg = 2 := by unfold E.putE; rw [hRg]; rfl
          rw [e2] at hput
          obtain ⟨z0, z1, z2, z3, z4, z5, z6, z7, z8, z9, z10, z11, z12, z13⟩ := set14 hX13
          have HW13 := Lib.hid hw13
          have HGX := Lib.hid hgx
          have HRg := Lib.hid hRg
          have HNg := Lib.hid hNg
          have hi4 : (i : Int) < 4 := by omega
          clear hw13 hgx hRg hNg e2
          go_wp2_with fail
          rw [HW13.out, ← HGX.out]
          go_wp2_with fail
          refine hput.mono ?_
          rintro e w14 ⟨Ab, Nb, cb, rfl, _, _, hb14⟩
          have hX14 := hX13.new hb14
          have hright := evright_any _ G Ag Ng cg Mg w14 HNg.out (hrg13.new hb14) (by unfold maxLen; omega)
          rw [HRg.out] at hright
          clear hput z0 z1 z2 z3 z4 z5 z6 z7 z8 z9 z10 z11 z12 z13
          obtain ⟨z0, z1, z2, z3, z4, z5, z6, z7, z8, z9, z10, z11, z12, z13⟩ := set14 hX14
          go_wp2_with fail
          refine hright.mono ?_
          rintro e w15 ⟨rfl, hb15⟩
          have hbx : Below w12.heap.size w12 w15 := ((hbr.trans (hb13.mono hbr.size)).trans (hb14.mono (Nat.le_trans hbr.size hb13.size))).trans (hb15.mono (Nat.le_trans (Nat.le_trans hbr.size hb13.size) hb14.size))
          clear hright z0 z1 z2 z3 z4 z5 z6 z7 z8 z9 z10 z11 z12 z13
          go_wp2
          go_roundw
          case rel => exact ⟨i + 1, by go_num, by omega, hbx⟩
          case measure => simp [intOf]; omega
        · have hX13 := hX12.new hbr
          have hr13 := hr12.new hbr
          have hb013 := below_new hb12 hbr
          obtain ⟨z0, z1, z2, z3, z4, z5, z6, z7, z8, z9, z10, z11, z12, z13⟩ := set14 hX13
          have hput := evput_any _ F A n c M wr HN.out hr13 hnm
          have HP : Hid (E.putB F M = Go.Proofs.Ytlckappnpdkihaa.V.encs (E.nums F M) ∧ E.putE F M = 0) := Lib.hid (by unfold E.putB E.putE; rw [HQ.out]; exact ⟨rfl, rfl⟩)
          rw [HP.out.2] at hput
          have hlb : (E.putB F M).length ≤ 1800 := by
            rw [HP.out.1]
            have h1 := Go.Proofs.Ytlckappnpdkihaa.V.encs_len _ (nums_in HQ.out)
            have h2 := nums_len (F := F) (M := M) (by rw [HN.out]; omega)
            omega
          have HG4 : Hid (E.gE (E.putB F M ++ [0]) = 4) := Lib.hid (by rw [HP.out.1]; exact E.get_more HQ.out 0 [])
          have HBy : Hid (Byt (E.putB F M)) := Lib.hid (by rw [HP.out.1]; exact Go.Proofs.Ytlckappnpdkihaa.V.encs_byt _ (nums_in HQ.out))
          obtain ⟨L, hL⟩ : ∃ L, L = E.putB F M := ⟨_, rfl⟩
          rw [← hL] at hput hlb HG4 HBy
          clear hL
          go_wp2_with fail
          refine hput.mono ?_
          rintro e w16 ⟨Ab, Nb, cb, rfl, hNb, hob, hb16⟩
          have hb016 := below_new hb013 hb16
          have hs16 := hb16.size
          have hs013 := hb013.size
          have hNl : Nb ≤ 1800 := by omega
          have HNb := Lib.hid hNb
          obtain ⟨i0, hi, hz0, hz1, hz2⟩ := info_parts Try.rowU8
          have hlit : Rds (w16.alloc (.cells #[.int .u8 0] 5)) (fun _ => True) (some ⟨w16.heap.size, 0, none⟩) (u8s [0]) := lit_rds w16 [0] .u8 _
          clear hput z0 z1 z2 z3 z4 z5 z6 z7 z8 z9 z10 z11 z12 z13 hNb HP
          go_wp2_with (at_builtin; refine wpList_app _ rfl _ _ 36 rfl wr.heap.size 5 i0 (.int .u8 0) 1 Try.underlying36 hi hz0 hz1 hz2 rfl (.slice Ab Nb cb) Nb (u8s L) rfl (hob.alloc _) (fun _ => True) _ 1 1 (u8s [0]) rfl rfl hlit (one_ints _ [0]) (by unfold maxLen; omega) (by omega) (by simp; omega) ?_)
          intro v17 w17 hown17 hg17 _
          obtain ⟨A17, c17, rfl, _, _⟩ := own_form hown17
          obtain ⟨N17, hN17⟩ : ∃ q, q = Nb + 1 := ⟨_, rfl⟩
          rw [← hN17] at hown17 ⊢
          have hb17 : Below w.heap.size w w17 := by
            have h1 := below_new hb016 (b_alloc w16 (.cells #[.int .u8 0] 5))
            exact h1.grown hg17 h1.size (fun k hk => Nat.le_trans hs013 (hob.lt k hk).1)
          have hr17 : Rds w17 (fun b => wr.heap.size ≤ b) A17 (u8s (L ++ [0])) := by
            have h1 : u8s (L ++ [0]) = u8s L ++ u8s [0] := by simp
            rw [h1]
            exact (own_rds hown17).mono fun _ h => h.1
          have hget := evget_any _ A17 N17 c17 (L ++ [0]) w17 (by rw [hN17, HNb.out]; simp) hr17 (by simp; omega) (by
            intro x hx
            rcases List.mem_append.1 hx with h | h
            · exact HBy.out x h
            · simp at h; omega)
          have HN17 := Lib.hid hN17
          clear hN17 hr17 hown17 hg17 hlit hob
          go_wp2_with fail
          refine hget.mono ?_
          rintro e w18 ⟨A18, c18, rfl, _, hb18⟩
          rw [HG4.out]
          have hb018 := below_new hb17 hb18
          clear hget
          go_wp2
          go_ret
          exact ⟨rfl, below_new hb018 (b_alloc _ _)⟩
end Go.Proofs.Ytlckappnpdkihaa
