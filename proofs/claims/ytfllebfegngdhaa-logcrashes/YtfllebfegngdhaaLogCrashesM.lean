/- Layer 14: what LogCrashes comes to. -/
import Derived.Test.YtfllebfegngdhaaLogRewritesM
import Derived.Test.YtfllebfegngdhaaDkApart
namespace Go.Proofs.Ytfllebfegngdhaa
set_option linter.unusedVariables false
set_option linter.unusedSimpArgs false
open Go.ChangeShapes Go.WideShapes Go.ChangeAt Go.RowKit Go.Deep

section
variable {w0 W W' w' : World} {X : Nat → Prop} {g : Nat} {Z : Int} {L : List Int} {us : List Dk.U}
theorem DX.lmend (h : DX w0 W X g Z L us) (hX : ∀ b, X b → b < W.heap.size) (hB : Lg.By L us) (hl : us.length ≤ 800000000) :
    Calls Try.prog 13 #[.pointer (some ⟨g, 0, none⟩)] W (DXPost (.int .i64 0) w0 W X g Z (Lg.mnd L us).1 (Lg.mnd L us).2) := by
  obtain ⟨o, fp, h1, h2, h3⟩ := h
  exact (plmend_any h1 o hB hl).mono fun e w' k => DX.of (Lg.mnd_ok o) hX h2 h3 k
theorem DX.lwrite (h : DX w0 W X g Z L us) (hX : ∀ b, X b → b < W.heap.size) (hl : us.length ≤ 800000000) (S : Nat → Prop) (A : Option Addr) (n c : Nat) (xs : List Int) (hn : xs.length = n) (hr : Rds W S A (u8s xs)) (hx : Byt xs) (hn47 : n ≤ 140737488355328) :
    Calls Try.prog 11 #[.pointer (some ⟨g, 0, none⟩), .slice A n c] W (DXPost (.int .i64 (Lg.wrt Z L us xs).1) w0 W X g Z (Lg.wrt Z L us xs).2.1 (Lg.wrt Z L us xs).2.2) := by
  obtain ⟨o, fp, h1, h2, h3⟩ := h
  exact (plwrite_any h1 o hl S A n c xs hn hr hx hn47).mono fun e w' k => DX.of (Lg.wrt_ok o xs) hX h2 h3 k
end
theorem F.put_pos (b : List Int) : 0 < (F.put b).length := by rw [F.put_len]; omega
theorem Lg.cut_all {keep : Int} {P : Nat} (h : (P : Int) ≤ keep) : Dk.cut keep P = P := by unfold Dk.cut; omega
theorem Lg.cut_none {keep : Int} {P : Nat} (h : ¬ 0 < keep) : Dk.cut keep P = 0 := by unfold Dk.cut; omega
theorem Lg.cut_part {keep : Int} {P : Nat} (h0 : 0 < keep) (h : ¬ (P : Int) ≤ keep) : 0 < Dk.cut keep P ∧ Dk.cut keep P < P := by unfold Dk.cut; omega
/-- Behind a crash in the midst of a record: what there is, and what Mend leaves. -/
theorem Lg.crashed {bs : List (List Int)} {xs : List Int} (hb : ∀ b ∈ bs, b.length ≤ 4096 ∧ Byt b) (hx : xs.length ≤ 4096) (hxb : Byt xs) (keep : Int) :
    ∃ Lc, Dk.aft (F.cat bs) (((F.put xs).map Dk.U.b).take (Dk.cut keep ((F.put xs).map Dk.U.b).length)) = Lc ∧ Lg.By Lc [] ∧
      (if ((F.put xs).length : Int) ≤ keep then (F.all Lc).1 = bs ++ [xs] ∧ Lg.torn Lc [] = false ∧ Lg.mnd Lc [] = (F.cat (bs ++ [xs]), [])
       else (F.all Lc).1 = bs ∧ Lg.torn Lc [] = decide (0 < keep) ∧ Lg.mnd Lc [] = (F.cat bs, [])) := by
  have h4 : ∀ b ∈ bs, b.length ≤ 4096 := fun b h => (hb b h).1
  have hby := F.cat_byt hb
  have hpy := F.put_byt hxb (by omega)
  rw [List.length_map, ← List.map_take, Dk.aft_bytes]
  refine ⟨_, rfl, .new (hby.app (hpy.take _)), ?_⟩
  by_cases hw : ((F.put xs).length : Int) ≤ keep
  · rw [if_pos hw, Lg.cut_all hw, List.take_length, ← F.cat_snoc]
    have h5 : ∀ b ∈ bs ++ [xs], b.length ≤ 4096 := fun b h => by
      rcases List.mem_append.1 h with h | h
      · exact h4 b h
      · simp at h; subst h; exact hx
    exact ⟨by rw [F.all_of_cat h5], Lg.torn_cat h5, Lg.mnd_cat h5⟩
  · rw [if_neg hw]
    by_cases h0 : 0 < keep
    · obtain ⟨c1, c2⟩ := Lg.cut_part h0 hw
      obtain ⟨p1, p2, p3⟩ := Lg.part_all h4 hx c2 c1
      exact ⟨by rw [p1], by rw [p2]; simpa using h0, p3⟩
    · rw [Lg.cut_none h0, List.take_zero, List.append_nil]
      exact ⟨by rw [F.all_of_cat h4], by rw [Lg.torn_cat h4]; simpa using h0, Lg.mnd_cat h4⟩

/-- append, where a guard stands ahead of it. -/
theorem wpList_appG {P : Program} (w : World) {ops : Array Oper} {rest : List Oper} {o : Oper} {a : Act} {Q : Exit → Act → World → Prop} (hgd : Region.wanted o (yielded ops a.tmps) = true) (s x : Operand) (t : TypeId)
    (ho : o.op = .call { callee := .builtin .append, args := #[s, x], argTypes := #[t, t] }) (vs vx : Value) (hs : a.eval s = vs) (hx : a.eval x = vx) {v' : Value} {w' : World} (hrun : (Builtin.append_ #[t, t] o.type #[vs, vx]).run P w = .ok v' w')
    (h : wpList P ops Q rest (a.put o.dst v') w') : wpList P ops Q (o :: rest) a w := by
  refine wpList_step fun K hK => ?_
  rw [if_pos hgd]
  unfold Oper.wp execOp
  simp only [ho, resolve, invoke, builtin, Sem.run_bind, Sem.run_pure, Result.andThen_ok, List.map_toArray, List.map_cons, List.map_nil, hs, hx, hrun]
  exact hK _ _ h
theorem Lg.cat_len300 {bs : List (List Int)} (h : ∀ b ∈ bs, b.length ≤ 300) (hn : bs.length ≤ 20) : (F.cat bs).length ≤ 6220 := by
  suffices H : ∀ bs : List (List Int), (∀ b ∈ bs, b.length ≤ 300) → (F.cat bs).length ≤ bs.length * 311 by have := H bs h; omega
  intro bs
  induction bs with
  | nil => intro _; simp [F.cat]
  | cons b t ih =>
    intro h
    have h1 := F.put_len_le (b := b) (by have := h b (by simp); omega)
    have h2 := h b (by simp)
    have h3 := ih fun x hx => h x (by simp [hx])
    rw [F.cat_cons, List.length_append, List.length_cons]
    omega
theorem BRd.old {w : World} {S : Nat → Prop} {vs : List Value} {bs : List (List Int)} (h : BRd w S vs bs) : BRd w (fun b => S b ∧ b < w.heap.size) vs bs :=
  ⟨h.1, fun i v b hv hb => by obtain ⟨A, c, e, hr⟩ := h.2 i v b hv hb; exact ⟨A, c, e, hr.old⟩⟩
set_option maxRecDepth 100000 in
set_option maxHeartbeats 4000000 in
theorem logcrashes_main (A : Option Addr) (n c : Nat) (vs : List Value) (bs : List (List Int)) (B : Option Addr) (m d : Nat) (xs : List Int) (C : Option Addr) (p f : Nat) (ys : List Int) (keep : Int) (w : World)
    (hn : bs.length = n) (hr : Rds w (· < w.heap.size) A vs) (hb : BRd w (· < w.heap.size) vs bs) (hx : ∀ b ∈ bs, b.length ≤ 140737488355328 ∧ Byt b) (hn47 : n ≤ 140737488355328)
    (hm : xs.length = m) (hs : Rds w (· < w.heap.size) B (u8s xs)) (hxb : Byt xs) (hm47 : m ≤ 140737488355328)
    (hp : ys.length = p) (ht : Rds w (· < w.heap.size) C (u8s ys)) (hyb : Byt ys) (hp47 : p ≤ 140737488355328) (hkf : keep < 9223372036854775808) :
    Calls Try.prog 4 #[.agg #[.slice A n c, .slice B m d, .slice C p f, .int .i64 keep]] w fun e w' => e = .returned (.bool true) ∧ Below w.heap.size w w' := by
  obtain ⟨i0, hi0, hz0, hz1, hz2⟩ := info_parts Try.rowSl
  have HI := Lib.hid hi0
  have HZ := Lib.hid (And.intro hz0 (And.intro hz1 hz2))
  obtain ⟨w1, hw1⟩ : ∃ W, w.alloc (.cells #[.slice A n c, .slice B m d, .slice C p f, .int .i64 keep] 53) = W := ⟨_, rfl⟩
  have hb1 : Below w.heap.size w w1 := by rw [← hw1]; exact b_alloc _ _
  have hB1 : Blo w1 w.heap.size 53 #[.slice A n c, .slice B m d, .slice C p f, .int .i64 keep] := by rw [← hw1]; exact Blo.made _ _ _
  have HW := Lib.hid hw1
  have HN := Lib.hid hn
  have HM := Lib.hid hm
  have HP := Lib.hid hp
  have HX := Lib.hid hx
  have HR := Lib.hid (And.intro hr hb)
  have HS := Lib.hid (And.intro hs hxb)
  have HT := Lib.hid (And.intro ht hyb)
  clear hi0 hz0 hz1 hz2 hw1 hn hm hp hx hr hb hs ht hxb hyb
  go_enter Try.func4, Try.ntmps4
  go_wp2_with fail
  rw [HW.out]
  refine (lgalive_any w1).mono ?_
  rintro e w2 ⟨rfl, hb2⟩
  have hb02 := below_new hb1 hb2
  have hB2 := hB1.new hb2
  have q0 : w2.cell? ⟨w.heap.size, 0, none⟩ = some (.slice A n c) := by simpa using hB2.cell 0
  have q1 : w2.cell? ⟨w.heap.size, 1, none⟩ = some (.slice B m d) := by simpa using hB2.cell 1
  have q2 : w2.cell? ⟨w.heap.size, 2, none⟩ = some (.slice C p f) := by simpa using hB2.cell 2
  have q3 : w2.cell? ⟨w.heap.size, 3, none⟩ = some (.int .i64 keep) := by simpa using hB2.cell 3
  clear hb1 hb2 hB1 hB2
  go_wp2_with fail
  go_quiet (fail)
  obtain ⟨wq, hd, hW⟩ : ∃ W, Drew w2 W ∧ w2.drewN nq = W := ⟨_, ⟨nq, rfl⟩, rfl⟩
  rw [hW]
  have hb0q := below_drewN hb02 nq
  rw [hW] at hb0q
  clear q0 q1 q2 q3 hd hW hb02
  have hb02 := hb0q
  clear hb0q
  by_cases hbn : 20 < n
  · have hI : (20 : Int) < (n : Int) := by omega
    go_wp2
    go_ret
    exact ⟨rfl, hb02⟩
  have hI : ¬ (20 : Int) < (n : Int) := by omega
  by_cases hbm : 300 < m
  · have hJ : (300 : Int) < (m : Int) := by omega
    go_wp2
    go_ret
    exact ⟨rfl, hb02⟩
  have hJ : ¬ (300 : Int) < (m : Int) := by omega
  by_cases hbp : 300 < p
  · have hK : (300 : Int) < (p : Int) := by omega
    go_wp2
    go_ret
    exact ⟨rfl, hb02⟩
  have hK : ¬ (300 : Int) < (p : Int) := by omega
  go_wp2_with fail
  refine (pnew_any 16384 wq).mono ?_
  intro e w3 h
  unfold PNewPost at h
  rw [if_pos (by decide)] at h
  obtain ⟨g, rfl, h1, h2⟩ := h
  have HD3 : Hid (DS w w3 g 16384 (F.cat (bs.take 0)) []) := Lib.hid ⟨Dk.Ok.new (by decide) (by decide), fun b => wq.heap.size ≤ b ∧ b < w3.heap.size, h1.mono fun b hb hl => ⟨hb, hl⟩, fun b hb => ⟨Nat.le_trans hb02.size hb.1, hb.2⟩, below_new hb02 h2⟩
  clear h1 h2 hb02
  go_wp2_with fail
  go_loopw [48] (fun iv wr => ∃ i : Nat, iv = .int .i64 i ∧ i ≤ n ∧ (∀ b ∈ bs.take i, b.length ≤ 300) ∧ DS w wr g 16384 (F.cat (bs.take i)) []) (fun iv _ => n - (intOf iv).toNat)
  case atStart => exact ⟨0, rfl, Nat.zero_le _, fun b hb => by simp at hb, HD3.out⟩
  case round =>
    obtain ⟨i, rfl, hi, hks, hD⟩ := hrel
    have hbel := hD.bel
    have hHR := HR.out.1.new hbel
    have hHB := HR.out.2.new hbel
    by_cases hlt : i < n
    · have hlI : (i : Int) < (n : Int) := by omega
      have hib : i < bs.length := by rw [HN.out]; exact hlt
      have hiv : i < vs.length := by rw [hHB.1]; exact hib
      obtain ⟨ad, rfl, _, hc⟩ := hHR.at (j := i) hiv
      obtain ⟨A2, c2, e2, hr2⟩ := hHB.2 i vs[i] bs[i] (List.getElem?_eq_getElem _) (List.getElem?_eq_getElem _)
      obtain ⟨hx1, hx2⟩ := HX.out _ (List.getElem_mem hib)
      have HTS : Hid (bs.take (i + 1) = bs.take i ++ [bs[i]]) := Lib.hid (List.take_succ_eq_append_getElem hib)
      rw [e2] at hc
      generalize bs[i] = zs at hc hr2 hx1 hx2 HTS
      clear e2 hib hiv hHR hHB
      by_cases hzb : 300 < zs.length
      · have hzI : (300 : Int) < (zs.length : Int) := by omega
        clear hD hks
        go_wp2
        go_ret
        exact ⟨rfl, hbel⟩
      · have hzI : ¬ (300 : Int) < (zs.length : Int) := by omega
        have hcl := F.cat_len (bs := bs.take i) (fun b hb => by have := hks b hb; omega)
        have hcl2 : (bs.take i).length ≤ 20 := by rw [List.length_take]; omega
        have hpl := F.put_len_le (b := zs) (by omega)
        have hcl3 : (F.cat (bs.take i)).length ≤ 6220 := Lg.cat_len300 hks hcl2
        have HC := hD.lwrite (by simp) (Below.refl _ _) _ A2 zs.length c2 zs rfl hr2 hx2 hx1
        rw [Lg.wrt_yes (by omega) (by omega), ← F.cat_snoc, ← HTS.out] at HC
        have HKS : Hid (∀ b ∈ bs.take (i + 1), b.length ≤ 300) := Lib.hid (fun b hb => by
          rw [HTS.out] at hb
          rcases List.mem_append.1 hb with h | h
          · exact hks b h
          · simp at h; subst h; omega)
        have HC2 := Lib.hid HC
        clear HC hD hks hcl hcl2 hpl hcl3 hr2 hx1 hx2 hbel HTS
        go_wp2_with fail
        refine HC2.out.mono ?_
        rintro e w4 ⟨rfl, hD4, _⟩
        have HD4 := Lib.hid hD4
        clear hD4 HC2
        go_wp2
        go_roundw
        case rel => exact ⟨i + 1, by go_num, by omega, HKS.out, HD4.out⟩
        case measure => simp [intOf]; omega
    · have hlI : ¬ (i : Int) < (n : Int) := by omega
      have hta : bs.take i = bs := List.take_of_length_le (by rw [HN.out]; omega)
      rw [hta] at hks hD
      have hr2 := HS.out.1.new hbel
      have hm' := HM.out
      have hF := rfput_yes _ B m d xs wr hm'.symm hr2 (by omega) HS.out.2
      have HF := Lib.hid hF
      have HKS := Lib.hid hks
      have HD := Lib.hid hD
      have hcl3 : (F.cat bs).length ≤ 6220 := Lg.cat_len300 hks (by rw [HN.out]; omega)
      have HCL := Lib.hid hcl3
      have HPL := Lib.hid (F.put_len_le (b := xs) (by omega))
      have HM3 : Hid (xs.length ≤ 300) := Lib.hid (by omega)
      have HP3 : Hid (ys.length ≤ 300) := Lib.hid (by rw [HP.out]; omega)
      have HN2 : Hid (bs.length ≤ 20) := Lib.hid (by rw [HN.out]; omega)
      clear hks hD hHR hHB hta hr2 hm' hF hcl3 hlt hi HW HD3 hbel
      go_wp2_with fail
      refine HF.out.mono ?_
      rintro e w4 ⟨v, rfl, hv, hb4⟩
      obtain ⟨B4, d4, rfl, hd4, hown4⟩ := hv.form
      obtain ⟨P, hP⟩ : ∃ P : Nat, (F.put xs).length = P := ⟨_, rfl⟩
      have HPP := Lib.hid hP
      have hPb : P ≤ 311 := by have := HPL.out; have := HM3.out; omega
      have C1 := HD.out.append (by simp) hb4 (fun b => wr.heap.size ≤ b) B4 P d4 (F.put xs) hP ((own_rds hown4).mono fun b hb => hb.1) (fun b hb _ => .inr hb) (by omega)
      have e1 : Dk.apE 16384 (F.cat bs) [] (F.put xs) = 0 ∧ Dk.apU 16384 (F.cat bs) [] (F.put xs) = (F.put xs).map .b := by
        have := HCL.out
        constructor
        · unfold Dk.apE; rw [Dk.aft_nil, if_neg (by omega)]
        · unfold Dk.apU; rw [Dk.aft_nil, if_neg (by omega)]; rfl
      rw [e1.1, e1.2] at C1
      rw [hP]
      clear hP hv hd4 hown4 hb4 e1 HF HD
      go_wp2_with fail
      refine C1.mono ?_
      rintro e w5 ⟨rfl, hD5, _⟩
      have C2 := hD5.crash (by rw [List.length_map, HPP.out]; omega) (Below.refl _ _) keep hkf
      obtain ⟨Lc, hLc, hBy, hCr⟩ := Lg.crashed (bs := bs) (xs := xs) (fun b hb => ⟨by have := HKS.out b hb; omega, (HX.out b hb).2⟩) (by have := HM3.out; omega) HS.out.2 keep
      rw [hLc] at C2
      rw [HPP.out] at hCr
      have HBy := Lib.hid hBy
      have HCr := Lib.hid hCr
      clear C1 hD5 hLc hBy hCr
      go_wp2_with fail
      refine C2.mono ?_
      rintro e w6 ⟨rfl, hD6, _⟩
      have C3 := hD6.lread HBy.out (by simp) (Below.refl _ _)
      rw [Dk.aft_nil] at C3
      have HD6 := Lib.hid hD6
      clear C2 hD6
      by_cases hw : (P : Int) ≤ keep
      · have hcr := HCr.out
        rw [if_pos hw] at hcr
        have h0 : 0 < keep := by have := F.put_pos xs; have := HPP.out; omega
        obtain ⟨r1, r2, r3⟩ := hcr
        rw [r1, r2] at C3
        have HMn := Lib.hid r3
        clear r1 r2 r3 HCr
        have HK4 : Hid (∀ b ∈ (bs ++ [xs]), b.length ≤ 4096 ∧ Byt b) := Lib.hid (fun b hb => by
          rcases List.mem_append.1 hb with h | h
          · exact ⟨by have := HKS.out b h; omega, (HX.out b h).2⟩
          · simp at h; subst h; exact ⟨by have := HM3.out; omega, HS.out.2⟩)
        have HKc : Hid ((F.cat (bs ++ [xs])).length ≤ 6531) := Lib.hid (by
          rw [F.cat_snoc, List.length_append]
          have := HCL.out
          have := HPL.out
          have := HM3.out
          omega)
        have HKn : Hid ((bs ++ [xs]).length ≤ 21) := Lib.hid (by
          rw [List.length_append]
          have := HN2.out
          simp
          omega)
        go_wp2_with fail
        refine C3.mono ?_
        rintro e w7 ⟨A7, N7, c7, vs7, rfl, hN7, hr7, hv7, hb7⟩
        have HW76 : Hid (w6.heap.size ≤ w7.heap.size) := Lib.hid hb7.size
        have HN7 := Lib.hid hN7
        have HV7 := Lib.hid (And.intro hr7 hv7)
        obtain ⟨w8, hw8⟩ : ∃ W, w7.alloc (.cells #[] 32) = W := ⟨_, rfl⟩
        have hb8 : Below w7.heap.size w7 w8 := by rw [← hw8]; exact b_alloc _ _
        have hown8 : w8.ownsRow w7.heap.size 32 1 (.slice (some ⟨w7.heap.size, 0, none⟩) 0 0) 0 [] := by rw [← hw8]; exact World.ownsRow_lit w7 #[] 0 (Nat.le_refl _) (by unfold maxLen; omega) rfl
        have hb68 := below_new hb7 hb8
        have hs8 := hb8.size
        have hbw8 := below_new HD6.out.bel hb68
        have hr8 := HR.out.1.new hbw8
        have hone := HR.out.2.one
        have hvl : vs.length = n := by rw [HR.out.2.1, HN.out]
        have hn20 : n ≤ 20 := by have := HN2.out; have := HN.out; omega
        clear C3 hN7 hr7 hv7
        go_wp2_with (at_builtin; refine wpList_app _ rfl _ _ 33 rfl w7.heap.size 32 i0 (.slice none 0 0) 24 Try.underlying33 HI.out HZ.out.1 HZ.out.2.1 HZ.out.2.2 rfl _ _ _ rfl hown8 _ A n c vs rfl hvl hr8 hone (by unfold maxLen; omega) (by omega) hs8 ?_)
        intro v9 w9 hown9 hg9 hv9
        obtain ⟨A9, c9, rfl, hc9, _⟩ := own_form hown9
        have hb69 : Below w6.heap.size w6 w9 := hb68.grown hg9 hb68.size fun k hk => by simp [Value.ownBlock] at hk; have := hb7.size; omega
        have hb79 : Below w7.heap.size w7 w9 := hb8.grown hg9 hs8 fun k hk => by simp [Value.ownBlock] at hk; omega
        have hbw9 := below_new HD6.out.bel hb69
        have hs9 := hb79.size
        clear hown8 hg9 hv9 hb8 hw8 hb68 hs8 hbw8 hr8 hb7
        obtain ⟨wl, hwl⟩ : ∃ W, w9.alloc (.cells #[.slice B m d] 32) = W := ⟨_, rfl⟩
        have hbl : Below w9.heap.size w9 wl := by rw [← hwl]; exact b_alloc _ _
        have hrl : Rds wl (fun _ => True) (some ⟨w9.heap.size, 0, none⟩) [.slice B m d] := by rw [← hwl]; exact vone_rds w9 _ _
        have hownl := own_keep hown9 fun b _ hl => hbl.block b hl
        have hs7l : w7.heap.size ≤ wl.heap.size := Nat.le_trans hs9 hbl.size
        have hb6l := below_new hb69 hbl
        have hb7l := below_new hb79 hbl
        have hbwl := below_new hbw9 hbl
        go_wp2_with (at_builtin; refine wpList_app _ rfl _ _ 33 rfl w7.heap.size 32 i0 (.slice none 0 0) 24 Try.underlying33 HI.out HZ.out.1 HZ.out.2.1 HZ.out.2.2 rfl _ _ _ rfl hownl _ _ 1 1 [.slice B m d] rfl rfl hrl (fun u hu => by simp at hu; subst hu; rfl) (by unfold maxLen; omega) (by omega) hs7l ?_)
        intro va wa howna hga hva
        obtain ⟨Aa, ca, rfl, hca, _⟩ := own_form howna
        have hb6a : Below w6.heap.size w6 wa := hb6l.grown hga hb6l.size fun k hk => by have := (World.ownsRow.lt hownl k hk).1; have := (World.ownsRow.lt hownl k hk).2; have := HW76.out; omega
        have hb7a : Below w7.heap.size w7 wa := hb7l.grown hga hs7l fun k hk => (World.ownsRow.lt hownl k hk).1
        have hbwa := below_new HD6.out.bel hb6a
        have HWR : Hid ((n + 1) = (vs ++ [Value.slice B m d]).length ∧ BRd wa (· < w.heap.size) (vs ++ [Value.slice B m d]) (bs ++ [xs])) := Lib.hid ⟨by rw [List.length_append, hvl]; rfl, (HR.out.2.keep fun b hb _ => hbwa.block b hb).app ⟨rfl, fun i v b h1 h2 => by
          match i, h1, h2 with
          | 0, h1, h2 =>
            simp at h1 h2
            subst h1; subst h2
            exact ⟨B, d, by rw [HM.out], HS.out.1.keep fun b hb _ => hbwa.block b hb⟩⟩⟩
        clear hown9 hb69 hb79 hbw9 hs9 hwl hbl hrl hownl hs7l hb6l hb7l hbwl hga hva hca hc9
        have hX := HD6.out.dx hb6a
        have HX6 := Lib.hid hX
        have HOW := Lib.hid howna
        have HSm := Lib.hid (BRd.same (c := c7) (d := ca) (HV7.out.1.new hb7a) (own_rds howna) (HV7.out.2.new hb7a) HWR.out.2 HN7.out HWR.out.1 (by have := HKn.out; omega) (fun b hb => by have := (HK4.out b hb).1; omega))
        have HBw := Lib.hid hbwa
        have hnn : ((n : Nat) : Int) + 1 = ((n + 1 : Nat) : Int) := by omega
        have HS7a : Hid (w7.heap.size ≤ wa.heap.size) := Lib.hid hb7a.size
        have HWs : Hid (w.heap.size ≤ w7.heap.size) := Lib.hid (Nat.le_trans HD6.out.bel.size HW76.out)
        clear hX howna hbwa hb6a hb7a
        go_wp2_with fail
        refine HSm.out.mono ?_
        rintro e wb ⟨rfl, nd, rfl⟩
        have C4 := (HX6.out.new (below_drewN (Below.refl _ _) nd)).lmend (fun b hb => hb.2) HBy.out (by simp)
        rw [HMn.out] at C4
        clear HSm
        go_wp2_with fail
        refine C4.mono ?_
        rintro e wc ⟨rfl, hXc, hsc, hkc⟩
        have hbwc : Below w.heap.size w wc := hXc.ds.bel
        have C5 := hXc.lwrite (fun b hb => Nat.lt_of_lt_of_le hb.2 hsc) (by simp) _ C p f ys HP.out (HT.out.1.new hbwc) HT.out.2 hp47
        rw [Lg.wrt_yes (by have := HP3.out; omega) (by have := F.put_len_le (b := ys) (by have := HP3.out; omega); have := HKc.out; have := HP3.out; omega), ← F.cat_snoc] at C5
        have HKE := Lib.hid (And.intro hsc hkc)
        clear C4 hXc hsc hkc hbwc HX6
        go_wp2_with fail
        refine C5.mono ?_
        rintro e wd ⟨rfl, hXd, hsd, hkd⟩
        have HK5 : Hid (∀ b ∈ (bs ++ [xs]) ++ [ys], b.length ≤ 4096 ∧ Byt b) := Lib.hid (fun b hb => by
          rcases List.mem_append.1 hb with h | h
          · exact HK4.out b h
          · simp at h; subst h; exact ⟨by have := HP3.out; omega, HT.out.2⟩)
        have h54 : ∀ b ∈ (bs ++ [xs]) ++ [ys], b.length ≤ 4096 := fun b hb => (HK5.out b hb).1
        have C6 := hXd.ds.lread (.new (F.cat_byt HK5.out)) (by simp) (Below.refl _ _)
        rw [Dk.aft_nil, F.all_of_cat h54, Lg.torn_cat h54] at C6
        have HOd : Hid (wd.ownsRow w7.heap.size 32 1 (.slice Aa (n + 1) ca) (n + 1) (vs ++ [Value.slice B m d])) := Lib.hid (own_keep HOW.out fun b e hl => by
          have h1 := World.ownsRow.lt HOW.out b e
          have hX : w6.heap.size ≤ b ∧ b < wa.heap.size := ⟨Nat.le_trans HW76.out h1.1, h1.2⟩
          exact (hkd b hX (Nat.lt_of_lt_of_le h1.2 HKE.out.1)).trans (HKE.out.2 b hX h1.2))
        have HBd := Lib.hid hXd.ds.bel
        have HSd : Hid (w7.heap.size ≤ wd.heap.size) := Lib.hid (Nat.le_trans HS7a.out (Nat.le_trans HKE.out.1 hsd))
        clear C5 hXd hsd hkd HKE HOW h54
        go_wp2_with fail
        refine C6.mono ?_
        rintro e we ⟨Ae, Ne, ce, vse, rfl, hNe, hre, hve, hbe⟩
        have HVe := Lib.hid (And.intro hNe (And.intro hre hve))
        obtain ⟨wf, hwf⟩ : ∃ W, we.alloc (.cells #[.slice C p f] 32) = W := ⟨_, rfl⟩
        have hbf : Below we.heap.size we wf := by rw [← hwf]; exact b_alloc _ _
        have hrf : Rds wf (fun _ => True) (some ⟨we.heap.size, 0, none⟩) [.slice C p f] := by rw [← hwf]; exact vone_rds we _ _
        have hbdf := below_new hbe hbf
        have hownf := own_keep HOd.out fun b _ hl => hbdf.block b hl
        have hs7f : w7.heap.size ≤ wf.heap.size := Nat.le_trans HSd.out hbdf.size
        have HBf := Lib.hid (below_new HBd.out hbdf)
        have HEf := Lib.hid hbf
        have HSde := Lib.hid hbe.size
        clear C6 hNe hre hve hbe hbf
        obtain ⟨vg, wg, hrg, howng, hgg, hvg⟩ := run_app (P := Try.prog) wf w7.heap.size 33 33 32 i0 (.slice none 0 0) 24 Try.underlying33 HI.out HZ.out.1 HZ.out.2.1 HZ.out.2.2 rfl _ _ _ hownf _ _ 1 1 [.slice C p f] rfl hrf (fun u hu => by simp at hu; subst hu; rfl) (by unfold maxLen; omega) (by omega) hs7f
        obtain ⟨Ag, cg, rfl, hcg, _⟩ := own_form howng
        have hbwg : Below w.heap.size w wg := HBf.out.grown hgg HBf.out.size fun k hk => by have := (World.ownsRow.lt hownf k hk).1; have := HWs.out; omega
        have HSm := Lib.hid (BRd.same (n := Ne) (c := ce) (d := cg) (m := (n + 1) + 1) (bs := (bs ++ [xs]) ++ [ys]) (Sa := fun b => wd.heap.size ≤ b ∧ b < we.heap.size) (S := fun b => wd.heap.size ≤ b ∧ b < we.heap.size) (T := (· < w.heap.size))
          ((HVe.out.2.1.old).mono (fun b hb => ⟨hb.1, hb.2⟩) |>.keep (w' := wg) fun b hb hl => (hgg.block b (Nat.lt_of_lt_of_le hb.2 HEf.out.size) (fun e => by have := (World.ownsRow.lt HOd.out b e.symm).2; omega)).trans (HEf.out.block b hb.2))
          (own_rds howng)
          (HVe.out.2.2.old.keep fun b hb hl => (hgg.block b (Nat.lt_of_lt_of_le hb.2 HEf.out.size) (fun e => by have := (World.ownsRow.lt HOd.out b e.symm).2; omega)).trans (HEf.out.block b hb.2))
          ((HWR.out.2.keep fun b hb _ => by rw [hbwg.block b hb, HBw.out.block b hb]).app ⟨rfl, fun i v b h1 h2 => by
            match i, h1, h2 with
            | 0, h1, h2 =>
              simp at h1 h2
              subst h1; subst h2
              exact ⟨C, f, by rw [HP.out], HT.out.1.keep fun b hb _ => hbwg.block b hb⟩⟩)
          HVe.out.1 (by rw [List.length_append, ← HWR.out.1, List.length_singleton]) (by rw [List.length_append, List.length_singleton]; have := HKn.out; omega) (fun b hb => by have := (HK5.out b hb).1; omega))
        have HBg := Lib.hid hbwg
        clear howng hgg hvg hcg hbwg hownf hrf hbdf hs7f HVe
        go_wp2_with (at_builtin; go_loud (refine wpList_appG _ (by rfl) _ _ 33 rfl _ _ rfl rfl hrg ?_))
        refine HSm.out.mono ?_
        rintro e wh ⟨rfl, ne, rfl⟩
        have HBh := Lib.hid (below_drewN HBg.out ne)
        clear HSm HBg
        go_wp2
        go_ret
        exact ⟨rfl, HBh.out⟩
      · by_cases h0 : 0 < keep
        · have hcr := HCr.out
          rw [if_neg hw] at hcr
          obtain ⟨r1, r2, r3⟩ := hcr
          rw [r1, r2] at C3
          have HMn := Lib.hid r3
          clear r1 r2 r3 HCr
          have HK4 : Hid (∀ b ∈ bs, b.length ≤ 4096 ∧ Byt b) := Lib.hid (fun b hb => by
            exact ⟨by have := HKS.out b hb; omega, (HX.out b hb).2⟩)
          have HKc : Hid ((F.cat bs).length ≤ 6531) := Lib.hid (by
            have := HCL.out
            omega)
          have HKn : Hid (bs.length ≤ 21) := Lib.hid (by
            have := HN2.out
            omega)
          have htb : decide (0 < keep) = true := by simpa using h0
          rw [htb] at C3
          go_wp2_with fail
          refine C3.mono ?_
          rintro e w7 ⟨A7, N7, c7, vs7, rfl, hN7, hr7, hv7, hb7⟩
          have HW76 : Hid (w6.heap.size ≤ w7.heap.size) := Lib.hid hb7.size
          have HN7 := Lib.hid hN7
          have HV7 := Lib.hid (And.intro hr7 hv7)
          obtain ⟨w8, hw8⟩ : ∃ W, w7.alloc (.cells #[] 32) = W := ⟨_, rfl⟩
          have hb8 : Below w7.heap.size w7 w8 := by rw [← hw8]; exact b_alloc _ _
          have hown8 : w8.ownsRow w7.heap.size 32 1 (.slice (some ⟨w7.heap.size, 0, none⟩) 0 0) 0 [] := by rw [← hw8]; exact World.ownsRow_lit w7 #[] 0 (Nat.le_refl _) (by unfold maxLen; omega) rfl
          have hb68 := below_new hb7 hb8
          have hs8 := hb8.size
          have hbw8 := below_new HD6.out.bel hb68
          have hr8 := HR.out.1.new hbw8
          have hone := HR.out.2.one
          have hvl : vs.length = n := by rw [HR.out.2.1, HN.out]
          have hn20 : n ≤ 20 := by have := HN2.out; have := HN.out; omega
          clear C3 hN7 hr7 hv7
          go_wp2_with (at_builtin; refine wpList_app _ rfl _ _ 33 rfl w7.heap.size 32 i0 (.slice none 0 0) 24 Try.underlying33 HI.out HZ.out.1 HZ.out.2.1 HZ.out.2.2 rfl _ _ _ rfl hown8 _ A n c vs rfl hvl hr8 hone (by unfold maxLen; omega) (by omega) hs8 ?_)
          intro v9 w9 hown9 hg9 hv9
          obtain ⟨A9, c9, rfl, hc9, _⟩ := own_form hown9
          have hb69 : Below w6.heap.size w6 w9 := hb68.grown hg9 hb68.size fun k hk => by simp [Value.ownBlock] at hk; have := hb7.size; omega
          have hb79 : Below w7.heap.size w7 w9 := hb8.grown hg9 hs8 fun k hk => by simp [Value.ownBlock] at hk; omega
          have hbw9 := below_new HD6.out.bel hb69
          have hs9 := hb79.size
          have howna := hown9
          have hb6a := hb69
          have hb7a := hb79
          have hbwa := hbw9
          have HWR : Hid (n = vs.length ∧ BRd w9 (· < w.heap.size) vs bs) := Lib.hid ⟨hvl.symm, HR.out.2.keep fun b hb _ => hbw9.block b hb⟩
          clear hown8 hg9 hv9 hb8 hw8 hb68 hs8 hbw8 hr8 hb7 hown9 hb69 hb79 hbw9 hs9 hc9
          have hX := HD6.out.dx hb6a
          have HX6 := Lib.hid hX
          have HOW := Lib.hid howna
          have HSm := Lib.hid (BRd.same (c := c7) (d := c9) (HV7.out.1.new hb7a) (own_rds howna) (HV7.out.2.new hb7a) HWR.out.2 HN7.out HWR.out.1 (by have := HKn.out; omega) (fun b hb => by have := (HK4.out b hb).1; omega))
          have HBw := Lib.hid hbwa
          have HS7a : Hid (w7.heap.size ≤ w9.heap.size) := Lib.hid hb7a.size
          have HWs : Hid (w.heap.size ≤ w7.heap.size) := Lib.hid (Nat.le_trans HD6.out.bel.size HW76.out)
          clear hX howna hbwa hb6a hb7a
          go_wp2_with fail
          refine HSm.out.mono ?_
          rintro e wb ⟨rfl, nd, rfl⟩
          have C4 := (HX6.out.new (below_drewN (Below.refl _ _) nd)).lmend (fun b hb => hb.2) HBy.out (by simp)
          rw [HMn.out] at C4
          clear HSm
          go_wp2_with fail
          refine C4.mono ?_
          rintro e wc ⟨rfl, hXc, hsc, hkc⟩
          have hbwc : Below w.heap.size w wc := hXc.ds.bel
          have C5 := hXc.lwrite (fun b hb => Nat.lt_of_lt_of_le hb.2 hsc) (by simp) _ C p f ys HP.out (HT.out.1.new hbwc) HT.out.2 hp47
          rw [Lg.wrt_yes (by have := HP3.out; omega) (by have := F.put_len_le (b := ys) (by have := HP3.out; omega); have := HKc.out; have := HP3.out; omega), ← F.cat_snoc] at C5
          have HKE := Lib.hid (And.intro hsc hkc)
          clear C4 hXc hsc hkc hbwc HX6
          go_wp2_with fail
          refine C5.mono ?_
          rintro e wd ⟨rfl, hXd, hsd, hkd⟩
          have HK5 : Hid (∀ b ∈ bs ++ [ys], b.length ≤ 4096 ∧ Byt b) := Lib.hid (fun b hb => by
            rcases List.mem_append.1 hb with h | h
            · exact HK4.out b h
            · simp at h; subst h; exact ⟨by have := HP3.out; omega, HT.out.2⟩)
          have h54 : ∀ b ∈ bs ++ [ys], b.length ≤ 4096 := fun b hb => (HK5.out b hb).1
          have C6 := hXd.ds.lread (.new (F.cat_byt HK5.out)) (by simp) (Below.refl _ _)
          rw [Dk.aft_nil, F.all_of_cat h54, Lg.torn_cat h54] at C6
          have HOd : Hid (wd.ownsRow w7.heap.size 32 1 (.slice A9 n c9) n vs) := Lib.hid (own_keep HOW.out fun b e hl => by
            have h1 := World.ownsRow.lt HOW.out b e
            have hX : w6.heap.size ≤ b ∧ b < w9.heap.size := ⟨Nat.le_trans HW76.out h1.1, h1.2⟩
            exact (hkd b hX (Nat.lt_of_lt_of_le h1.2 HKE.out.1)).trans (HKE.out.2 b hX h1.2))
          have HBd := Lib.hid hXd.ds.bel
          have HSd : Hid (w7.heap.size ≤ wd.heap.size) := Lib.hid (Nat.le_trans HS7a.out (Nat.le_trans HKE.out.1 hsd))
          clear C5 hXd hsd hkd HKE HOW h54
          go_wp2_with fail
          refine C6.mono ?_
          rintro e we ⟨Ae, Ne, ce, vse, rfl, hNe, hre, hve, hbe⟩
          have HVe := Lib.hid (And.intro hNe (And.intro hre hve))
          obtain ⟨wf, hwf⟩ : ∃ W, we.alloc (.cells #[.slice C p f] 32) = W := ⟨_, rfl⟩
          have hbf : Below we.heap.size we wf := by rw [← hwf]; exact b_alloc _ _
          have hrf : Rds wf (fun _ => True) (some ⟨we.heap.size, 0, none⟩) [.slice C p f] := by rw [← hwf]; exact vone_rds we _ _
          have hbdf := below_new hbe hbf
          have hownf := own_keep HOd.out fun b _ hl => hbdf.block b hl
          have hs7f : w7.heap.size ≤ wf.heap.size := Nat.le_trans HSd.out hbdf.size
          have HBf := Lib.hid (below_new HBd.out hbdf)
          have HEf := Lib.hid hbf
          have HSde := Lib.hid hbe.size
          clear C6 hNe hre hve hbe hbf
          obtain ⟨vg, wg, hrg, howng, hgg, hvg⟩ := run_app (P := Try.prog) wf w7.heap.size 33 33 32 i0 (.slice none 0 0) 24 Try.underlying33 HI.out HZ.out.1 HZ.out.2.1 HZ.out.2.2 rfl _ _ _ hownf _ _ 1 1 [.slice C p f] rfl hrf (fun u hu => by simp at hu; subst hu; rfl) (by unfold maxLen; omega) (by omega) hs7f
          obtain ⟨Ag, cg, rfl, hcg, _⟩ := own_form howng
          have hbwg : Below w.heap.size w wg := HBf.out.grown hgg HBf.out.size fun k hk => by have := (World.ownsRow.lt hownf k hk).1; have := HWs.out; omega
          have HSm := Lib.hid (BRd.same (n := Ne) (c := ce) (d := cg) (m := n + 1) (bs := bs ++ [ys]) (Sa := fun b => wd.heap.size ≤ b ∧ b < we.heap.size) (S := fun b => wd.heap.size ≤ b ∧ b < we.heap.size) (T := (· < w.heap.size))
            ((HVe.out.2.1.old).mono (fun b hb => ⟨hb.1, hb.2⟩) |>.keep (w' := wg) fun b hb hl => (hgg.block b (Nat.lt_of_lt_of_le hb.2 HEf.out.size) (fun e => by have := (World.ownsRow.lt HOd.out b e.symm).2; omega)).trans (HEf.out.block b hb.2))
            (own_rds howng)
            (HVe.out.2.2.old.keep fun b hb hl => (hgg.block b (Nat.lt_of_lt_of_le hb.2 HEf.out.size) (fun e => by have := (World.ownsRow.lt HOd.out b e.symm).2; omega)).trans (HEf.out.block b hb.2))
            ((HWR.out.2.keep fun b hb _ => by rw [hbwg.block b hb, HBw.out.block b hb]).app ⟨rfl, fun i v b h1 h2 => by
              match i, h1, h2 with
              | 0, h1, h2 =>
                simp at h1 h2
                subst h1; subst h2
                exact ⟨C, f, by rw [HP.out], HT.out.1.keep fun b hb _ => hbwg.block b hb⟩⟩)
            HVe.out.1 (by rw [List.length_append, ← HWR.out.1, List.length_singleton]) (by rw [List.length_append, List.length_singleton]; have := HKn.out; omega) (fun b hb => by have := (HK5.out b hb).1; omega))
          have HBg := Lib.hid hbwg
          clear howng hgg hvg hcg hbwg hownf hrf hbdf hs7f HVe
          go_wp2_with (at_builtin; go_loud (refine wpList_appG _ (by rfl) _ _ 33 rfl _ _ rfl rfl hrg ?_))
          refine HSm.out.mono ?_
          rintro e wh ⟨rfl, ne, rfl⟩
          have HBh := Lib.hid (below_drewN HBg.out ne)
          clear HSm HBg
          go_wp2
          go_ret
          exact ⟨rfl, HBh.out⟩
        · have hcr := HCr.out
          rw [if_neg hw] at hcr
          obtain ⟨r1, r2, r3⟩ := hcr
          rw [r1, r2] at C3
          have HMn := Lib.hid r3
          clear r1 r2 r3 HCr
          have HK4 : Hid (∀ b ∈ bs, b.length ≤ 4096 ∧ Byt b) := Lib.hid (fun b hb => by
            exact ⟨by have := HKS.out b hb; omega, (HX.out b hb).2⟩)
          have HKc : Hid ((F.cat bs).length ≤ 6531) := Lib.hid (by
            have := HCL.out
            omega)
          have HKn : Hid (bs.length ≤ 21) := Lib.hid (by
            have := HN2.out
            omega)
          have htb : decide (0 < keep) = false := by simpa using h0
          rw [htb] at C3
          go_wp2_with fail
          refine C3.mono ?_
          rintro e w7 ⟨A7, N7, c7, vs7, rfl, hN7, hr7, hv7, hb7⟩
          have HW76 : Hid (w6.heap.size ≤ w7.heap.size) := Lib.hid hb7.size
          have HN7 := Lib.hid hN7
          have HV7 := Lib.hid (And.intro hr7 hv7)
          obtain ⟨w8, hw8⟩ : ∃ W, w7.alloc (.cells #[] 32) = W := ⟨_, rfl⟩
          have hb8 : Below w7.heap.size w7 w8 := by rw [← hw8]; exact b_alloc _ _
          have hown8 : w8.ownsRow w7.heap.size 32 1 (.slice (some ⟨w7.heap.size, 0, none⟩) 0 0) 0 [] := by rw [← hw8]; exact World.ownsRow_lit w7 #[] 0 (Nat.le_refl _) (by unfold maxLen; omega) rfl
          have hb68 := below_new hb7 hb8
          have hs8 := hb8.size
          have hbw8 := below_new HD6.out.bel hb68
          have hr8 := HR.out.1.new hbw8
          have hone := HR.out.2.one
          have hvl : vs.length = n := by rw [HR.out.2.1, HN.out]
          have hn20 : n ≤ 20 := by have := HN2.out; have := HN.out; omega
          clear C3 hN7 hr7 hv7
          go_wp2_with (at_builtin; refine wpList_app _ rfl _ _ 33 rfl w7.heap.size 32 i0 (.slice none 0 0) 24 Try.underlying33 HI.out HZ.out.1 HZ.out.2.1 HZ.out.2.2 rfl _ _ _ rfl hown8 _ A n c vs rfl hvl hr8 hone (by unfold maxLen; omega) (by omega) hs8 ?_)
          intro v9 w9 hown9 hg9 hv9
          obtain ⟨A9, c9, rfl, hc9, _⟩ := own_form hown9
          have hb69 : Below w6.heap.size w6 w9 := hb68.grown hg9 hb68.size fun k hk => by simp [Value.ownBlock] at hk; have := hb7.size; omega
          have hb79 : Below w7.heap.size w7 w9 := hb8.grown hg9 hs8 fun k hk => by simp [Value.ownBlock] at hk; omega
          have hbw9 := below_new HD6.out.bel hb69
          have hs9 := hb79.size
          have howna := hown9
          have hb6a := hb69
          have hb7a := hb79
          have hbwa := hbw9
          have HWR : Hid (n = vs.length ∧ BRd w9 (· < w.heap.size) vs bs) := Lib.hid ⟨hvl.symm, HR.out.2.keep fun b hb _ => hbw9.block b hb⟩
          clear hown8 hg9 hv9 hb8 hw8 hb68 hs8 hbw8 hr8 hb7 hown9 hb69 hb79 hbw9 hs9 hc9
          have hX := HD6.out.dx hb6a
          have HX6 := Lib.hid hX
          have HOW := Lib.hid howna
          have HSm := Lib.hid (BRd.same (c := c7) (d := c9) (HV7.out.1.new hb7a) (own_rds howna) (HV7.out.2.new hb7a) HWR.out.2 HN7.out HWR.out.1 (by have := HKn.out; omega) (fun b hb => by have := (HK4.out b hb).1; omega))
          have HBw := Lib.hid hbwa
          have HS7a : Hid (w7.heap.size ≤ w9.heap.size) := Lib.hid hb7a.size
          have HWs : Hid (w.heap.size ≤ w7.heap.size) := Lib.hid (Nat.le_trans HD6.out.bel.size HW76.out)
          clear hX howna hbwa hb6a hb7a
          go_wp2_with fail
          refine HSm.out.mono ?_
          rintro e wb ⟨rfl, nd, rfl⟩
          have C4 := (HX6.out.new (below_drewN (Below.refl _ _) nd)).lmend (fun b hb => hb.2) HBy.out (by simp)
          rw [HMn.out] at C4
          clear HSm
          go_wp2_with fail
          refine C4.mono ?_
          rintro e wc ⟨rfl, hXc, hsc, hkc⟩
          have hbwc : Below w.heap.size w wc := hXc.ds.bel
          have C5 := hXc.lwrite (fun b hb => Nat.lt_of_lt_of_le hb.2 hsc) (by simp) _ C p f ys HP.out (HT.out.1.new hbwc) HT.out.2 hp47
          rw [Lg.wrt_yes (by have := HP3.out; omega) (by have := F.put_len_le (b := ys) (by have := HP3.out; omega); have := HKc.out; have := HP3.out; omega), ← F.cat_snoc] at C5
          have HKE := Lib.hid (And.intro hsc hkc)
          clear C4 hXc hsc hkc hbwc HX6
          go_wp2_with fail
          refine C5.mono ?_
          rintro e wd ⟨rfl, hXd, hsd, hkd⟩
          have HK5 : Hid (∀ b ∈ bs ++ [ys], b.length ≤ 4096 ∧ Byt b) := Lib.hid (fun b hb => by
            rcases List.mem_append.1 hb with h | h
            · exact HK4.out b h
            · simp at h; subst h; exact ⟨by have := HP3.out; omega, HT.out.2⟩)
          have h54 : ∀ b ∈ bs ++ [ys], b.length ≤ 4096 := fun b hb => (HK5.out b hb).1
          have C6 := hXd.ds.lread (.new (F.cat_byt HK5.out)) (by simp) (Below.refl _ _)
          rw [Dk.aft_nil, F.all_of_cat h54, Lg.torn_cat h54] at C6
          have HOd : Hid (wd.ownsRow w7.heap.size 32 1 (.slice A9 n c9) n vs) := Lib.hid (own_keep HOW.out fun b e hl => by
            have h1 := World.ownsRow.lt HOW.out b e
            have hX : w6.heap.size ≤ b ∧ b < w9.heap.size := ⟨Nat.le_trans HW76.out h1.1, h1.2⟩
            exact (hkd b hX (Nat.lt_of_lt_of_le h1.2 HKE.out.1)).trans (HKE.out.2 b hX h1.2))
          have HBd := Lib.hid hXd.ds.bel
          have HSd : Hid (w7.heap.size ≤ wd.heap.size) := Lib.hid (Nat.le_trans HS7a.out (Nat.le_trans HKE.out.1 hsd))
          clear C5 hXd hsd hkd HKE HOW h54
          go_wp2_with fail
          refine C6.mono ?_
          rintro e we ⟨Ae, Ne, ce, vse, rfl, hNe, hre, hve, hbe⟩
          have HVe := Lib.hid (And.intro hNe (And.intro hre hve))
          obtain ⟨wf, hwf⟩ : ∃ W, we.alloc (.cells #[.slice C p f] 32) = W := ⟨_, rfl⟩
          have hbf : Below we.heap.size we wf := by rw [← hwf]; exact b_alloc _ _
          have hrf : Rds wf (fun _ => True) (some ⟨we.heap.size, 0, none⟩) [.slice C p f] := by rw [← hwf]; exact vone_rds we _ _
          have hbdf := below_new hbe hbf
          have hownf := own_keep HOd.out fun b _ hl => hbdf.block b hl
          have hs7f : w7.heap.size ≤ wf.heap.size := Nat.le_trans HSd.out hbdf.size
          have HBf := Lib.hid (below_new HBd.out hbdf)
          have HEf := Lib.hid hbf
          have HSde := Lib.hid hbe.size
          clear C6 hNe hre hve hbe hbf
          obtain ⟨vg, wg, hrg, howng, hgg, hvg⟩ := run_app (P := Try.prog) wf w7.heap.size 33 33 32 i0 (.slice none 0 0) 24 Try.underlying33 HI.out HZ.out.1 HZ.out.2.1 HZ.out.2.2 rfl _ _ _ hownf _ _ 1 1 [.slice C p f] rfl hrf (fun u hu => by simp at hu; subst hu; rfl) (by unfold maxLen; omega) (by omega) hs7f
          obtain ⟨Ag, cg, rfl, hcg, _⟩ := own_form howng
          have hbwg : Below w.heap.size w wg := HBf.out.grown hgg HBf.out.size fun k hk => by have := (World.ownsRow.lt hownf k hk).1; have := HWs.out; omega
          have HSm := Lib.hid (BRd.same (n := Ne) (c := ce) (d := cg) (m := n + 1) (bs := bs ++ [ys]) (Sa := fun b => wd.heap.size ≤ b ∧ b < we.heap.size) (S := fun b => wd.heap.size ≤ b ∧ b < we.heap.size) (T := (· < w.heap.size))
            ((HVe.out.2.1.old).mono (fun b hb => ⟨hb.1, hb.2⟩) |>.keep (w' := wg) fun b hb hl => (hgg.block b (Nat.lt_of_lt_of_le hb.2 HEf.out.size) (fun e => by have := (World.ownsRow.lt HOd.out b e.symm).2; omega)).trans (HEf.out.block b hb.2))
            (own_rds howng)
            (HVe.out.2.2.old.keep fun b hb hl => (hgg.block b (Nat.lt_of_lt_of_le hb.2 HEf.out.size) (fun e => by have := (World.ownsRow.lt HOd.out b e.symm).2; omega)).trans (HEf.out.block b hb.2))
            ((HWR.out.2.keep fun b hb _ => by rw [hbwg.block b hb, HBw.out.block b hb]).app ⟨rfl, fun i v b h1 h2 => by
              match i, h1, h2 with
              | 0, h1, h2 =>
                simp at h1 h2
                subst h1; subst h2
                exact ⟨C, f, by rw [HP.out], HT.out.1.keep fun b hb _ => hbwg.block b hb⟩⟩)
            HVe.out.1 (by rw [List.length_append, ← HWR.out.1, List.length_singleton]) (by rw [List.length_append, List.length_singleton]; have := HKn.out; omega) (fun b hb => by have := (HK5.out b hb).1; omega))
          have HBg := Lib.hid hbwg
          clear howng hgg hvg hcg hbwg hownf hrf hbdf hs7f HVe
          go_wp2_with (at_builtin; go_loud (refine wpList_appG _ (by rfl) _ _ 33 rfl _ _ rfl rfl hrg ?_))
          refine HSm.out.mono ?_
          rintro e wh ⟨rfl, ne, rfl⟩
          have HBh := Lib.hid (below_drewN HBg.out ne)
          clear HSm HBg
          go_wp2
          go_ret
          exact ⟨rfl, HBh.out⟩
end Go.Proofs.Ytfllebfegngdhaa
