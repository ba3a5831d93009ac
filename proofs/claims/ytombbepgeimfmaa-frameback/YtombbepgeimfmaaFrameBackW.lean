/- The walk of FrameBack. -/
import Derived.Test.YtombbepgeimfmaaFrameAlive
import Derived.Test.YtombbepgeimfmaaFrameAll
import Derived.Test.YtombbepgeimfmaaVintSame
import Derived.Test.YtombbepgeimfmaaArgs
namespace Go.Proofs.Ytombbepgeimfmaa
open Go.ChangeShapes Go.WideShapes Go.ChangeAt Go.RowKit

set_option maxHeartbeats 1000000 in
set_option maxRecDepth 100000 in
theorem frameBack_out (a : Option Addr) (len cap : Nat) (t : Int) (w : World) (hl : len = 0 ∨ 20 < len) (hm : len ≤ maxLen) :
    Calls Try.prog 5 #[.slice a len cap, .int .u16 t] w fun e w' => e = .returned (.bool true) ∧ Below w.heap.size w w' := by
  unfold maxLen at hm
  have HL := Lib.hid hl
  clear hl
  go_enter Try.func5, Try.ntmps5
  go_wp2_with fail
  refine (frame_alive w).mono ?_
  rintro e w1 ⟨rfl, hb⟩
  by_cases h1 : len = 0
  · subst h1
    go_wp2
    go_ret
    exact ⟨rfl, hb⟩
  · have h2 : 20 < len := HL.out.resolve_left h1
    go_wp2
    go_ret
    exact ⟨rfl, hb⟩

/-- Where the first i frames end. -/
def F.ends (bs : List (List Int)) (i : Nat) : List Int := (List.range i).map fun j => ((F.cat (bs.take (j + 1))).length : Int)
theorem F.ends_len (bs : List (List Int)) (i : Nat) : (F.ends bs i).length = i := by simp [F.ends]
theorem F.ends_snoc (bs : List (List Int)) (i : Nat) : F.ends bs (i + 1) = F.ends bs i ++ [((F.cat (bs.take (i + 1))).length : Int)] := by simp [F.ends, List.range_succ]
theorem F.ends_at (bs : List (List Int)) {i j : Nat} (hj : j < i) : (F.ends bs i)[j]'(by rw [F.ends_len]; exact hj) = ((F.cat (bs.take (j + 1))).length : Int) := by simp [F.ends]
theorem F.cat_take {bs : List (List Int)} {i : Nat} (hi : i < bs.length) : F.cat (bs.take (i + 1)) = F.cat (bs.take i) ++ F.put bs[i] := by
  rw [List.take_add_one, List.getElem?_eq_getElem hi]
  exact F.cat_snoc _ _
theorem F.cat_len {bs : List (List Int)} (h : ∀ b ∈ bs, b.length ≤ 300) : (F.cat bs).length ≤ 311 * bs.length := by
  induction bs with
  | nil => simp [F.cat]
  | cons b t ih =>
    rw [F.cat_cons, List.length_append, List.length_cons]
    have h1 := F.put_len_le (b := b) (by have := h b (by simp); omega)
    have h2 := h b (by simp)
    have h3 := ih fun x hx => h x (by simp [hx])
    omega
theorem F.cat_byt {bs : List (List Int)} (h : ∀ b ∈ bs, b.length ≤ 300) (hb : ∀ b ∈ bs, Byt b) : Byt (F.cat bs) := by
  induction bs with
  | nil => intro c hc; simp [F.cat] at hc
  | cons b t ih =>
    rw [F.cat_cons]
    exact (F.put_byt (hb b (by simp)) (by have := h b (by simp); omega)).app (ih (fun x hx => h x (by simp [hx])) fun x hx => hb x (by simp [hx]))

/-- The bodies that came in. -/
structure Ins (w : World) (a : Option Addr) (vs : List Value) (bs : List (List Int)) : Prop where
  len : vs.length = bs.length
  top : Rds w (· < w.heap.size) a vs
  row : ∀ (i : Nat) u b, vs[i]? = some u → bs[i]? = some b → ∃ A c, u = .slice A b.length c ∧ b.length ≤ c ∧ c ≤ maxLen ∧ Rds w (· < w.heap.size) A (u8s b)
  byt : ∀ b ∈ bs, Byt b
theorem Ins.at {w W : World} {a : Option Addr} {vs : List Value} {bs : List (List Int)} (h : Ins w a vs bs) (hW : Below w.heap.size w W) {i : Nat} (hi : i < bs.length) :
    ∃ ad A c, a = some ad ∧ W.cell? (ad.add i) = some (.slice A bs[i].length c) ∧ bs[i].length ≤ c ∧ c ≤ maxLen ∧ Rds W (· < w.heap.size) A (u8s bs[i]) := by
  have hi' : i < vs.length := by rw [h.len]; exact hi
  obtain ⟨ad, e, _, hc⟩ := (h.top.new hW).at hi'
  obtain ⟨A, c, e2, h1, h2, h3⟩ := h.row i vs[i] bs[i] (List.getElem?_eq_getElem hi') (List.getElem?_eq_getElem hi)
  rw [e2] at hc
  exact ⟨ad, A, c, e, hc, h1, h2, h3.new hW⟩

/-- How the first loop stands. -/
structure BackI (w0 : World) (bs : List (List Int)) (iv bv ev : Value) (wr : World) (i : Nat) (Ab : Option Addr) (cb : Nat) (Ae : Option Addr) (ce : Nat) : Prop where
  iv : iv = .int .i64 (i : Int)
  il : i ≤ bs.length
  small : ∀ b ∈ bs.take i, b.length ≤ 300
  bv : bv = .slice Ab (F.cat (bs.take i)).length cb
  ev : ev = .slice Ae i ce
  ob : wr.ownsRow w0.heap.size 5 1 (.slice Ab (F.cat (bs.take i)).length cb) (F.cat (bs.take i)).length (u8s (F.cat (bs.take i)))
  oe : wr.ownsRow w0.heap.size 3 1 (.slice Ae i ce) i (i64s (F.ends bs i))
  bel : Below w0.heap.size w0 wr

theorem own_two {w w' : World} {b1 b2 : Nat} {t1 t2 : TypeId} {v u : Value} {n m : Nat} {xs ys : List Value} (h : w.ownsRow b1 t1 1 v n xs) (ho : w.ownsRow b2 t2 1 u m ys) (hne : t1 ≠ t2) (hg : w.grownBy w' u.ownBlock) : w'.ownsRow b1 t1 1 v n xs :=
  own_keep h fun k hk hlt => hg.block k hlt fun e2 => by
    rcases own_apart h ho hne with h1 | h1
    · rw [h1] at hk; cases hk
    · exact h1 (hk.trans e2)

set_option maxHeartbeats 4000000 in
set_option maxRecDepth 100000 in
theorem frameBack_yes (a : Option Addr) (cap : Nat) (vs : List Value) (bs : List (List Int)) (t : Nat) (w : World) (hI : Ins w a vs bs) (h0 : 0 < bs.length) (hl : bs.length ≤ 20) (ht : t < 65536) :
    Calls Try.prog 5 #[.slice a bs.length cap, .int .u16 (t : Int)] w fun e w' => e = .returned (.bool true) ∧ Below w.heap.size w w' := by
  obtain ⟨i0, hi, hz0, hz1, hz2⟩ := info_parts Try.rowU8
  obtain ⟨i1, hj, hy0, hy1, hy2⟩ := info_parts Try.rowI64
  have hne0 : ((bs.length : Int) == 0) = false := by simp; intro h; rw [h] at h0; simp at h0
  go_enter Try.func5, Try.ntmps5
  go_wp2_with fail
  refine (frame_alive w).mono ?_
  rintro e w1 ⟨rfl, hB1⟩
  have hs1 := hB1.size
  go_wp2_with fail
  go_loopw [31, 5, 6] (fun iv bv ev wr => ∃ i Ab cb Ae ce, BackI w1 bs iv bv ev wr i Ab cb Ae ce) (fun iv _ _ _ => bs.length - (intOf iv).toNat)
  case atStart => exact ⟨0, none, 0, none, 0, rfl, by omega, by simp, rfl, rfl, World.ownsRow_nil _ _ _ _, World.ownsRow_nil _ _ _ _, Below.refl _ _⟩
  case round =>
    obtain ⟨i, Ab, cb, Ae, ce, rfl, hil, hsm, rfl, rfl, hob, hoe, hbel⟩ := hrel
    have hBr := below_new hB1 hbel
    by_cases hlt : i < bs.length
    · obtain ⟨ad, A, c, rfl, hce, hbc, hcm, hrd⟩ := hI.at hBr hlt
      unfold maxLen at hcm
      by_cases h300 : 300 < bs[i].length
      · clear hob hoe
        go_wp2
        go_ret
        exact ⟨rfl, hBr⟩
      · have hcl := F.cat_len hsm
        have hct : (bs.take i).length = i := by simp; omega
        rw [hct] at hcl
        have hpl := F.put_len_le (b := bs[i]) (by omega)
        have hcat := F.cat_take hlt
        have hFP := fput_yes _ A bs[i].length c bs[i] wr rfl hrd (by omega) (hI.byt _ (List.getElem_mem hlt))
        obtain ⟨x, hx⟩ : ∃ x, x = F.put bs[i] := ⟨_, rfl⟩
        obtain ⟨m, hm⟩ : ∃ m, m = F.cat (bs.take i) := ⟨_, rfl⟩
        unfold FPutP at hFP
        rw [← hx] at hpl hcat hFP
        rw [← hm] at hcl hcat hob ⊢
        have HC := Lib.hid hcat
        have hsm' : ∀ b ∈ bs.take (i + 1), b.length ≤ 300 := by
          intro b hb
          rw [List.take_add_one, List.getElem?_eq_getElem hlt] at hb
          rcases List.mem_append.1 hb with h | h
          · exact hsm b h
          · simp at h; subst h; omega
        have HSM := Lib.hid hsm'
        have hil20 : i < 20 := by omega
        clear hx hm hcat hsm' hsm hct hrd
        go_wp2_with fail
        refine hFP.mono ?_
        rintro e w2 ⟨vx, rfl, ⟨Ax, cx, rfl, hox⟩, hb2⟩
        have hob2 := own_keep hob fun k _ hk => hb2.block k hk
        have hoe2 := own_keep hoe fun k _ hk => hb2.block k hk
        have hbel2 := below_new hbel hb2
        have hs2 := hbel2.size
        clear hce hFP hob hoe hbel hb2
        go_wp2_with (at_builtin; refine wpList_app _ rfl _ _ 22 rfl w1.heap.size 5 i0 (.int .u8 0) 1 Try.underlying22 hi hz0 hz1 hz2 rfl _ _ _ rfl hob2 _ Ax x.length cx (u8s x) rfl (by simp) (own_rds hox) (one_ints _ _) (by unfold maxLen; omega) (by omega) hs2 ?_)
        intro v3 w3 hob3 hg3 _
        have hoe3 := own_two hoe2 hob2 (by decide) hg3
        have hbel3 := hbel2.grown hg3 hs2 fun k hk => (hob2.lt k hk).1
        have hs3 := hbel3.size
        obtain ⟨A3, c3, rfl, _, _⟩ := own_form hob3
        have hml : m.length + x.length = (F.cat (bs.take (i + 1))).length := by rw [HC.out, List.length_append]
        have hms : u8s m ++ u8s x = u8s (F.cat (bs.take (i + 1))) := by rw [HC.out]; simp
        rw [hms] at hob3
        have HML := Lib.hid hml
        obtain ⟨q, hq⟩ : ∃ q, q = m.length + x.length := ⟨_, rfl⟩
        rw [← hq] at hob3 ⊢
        have hq' : q ≤ 20000 := by omega
        have HQ := Lib.hid hq
        clear hq hml hms hg3 hob2 hoe2 hbel2 hs2 hox
        have hoe4 := hoe3.alloc (.cells #[.int .i64 (q : Int)] 3)
        have hob4 := hob3.alloc (.cells #[.int .i64 (q : Int)] 3)
        have hbel4 := hbel3.alloc hs3 (.cells #[.int .i64 (q : Int)] 3)
        have hs4 := hbel4.size
        go_wp2_with (at_builtin; refine wpList_app _ rfl _ _ 41 rfl w1.heap.size 3 i1 (.int .i64 0) 8 Try.underlying41 hj hy0 hy1 hy2 rfl _ _ _ rfl hoe4 (fun _ => True) _ 1 1 [.int .i64 (q : Int)] rfl rfl (one_rds w3 _ _ _) (one_ints _ [_]) (by unfold maxLen; omega) (by omega) hs4 ?_)
        intro v5 w5 hoe5 hg5 _
        have hob5 := own_two hob4 hoe4 (by decide) hg5
        have hbel5 := hbel4.grown hg5 hs4 fun k hk => (hoe4.lt k hk).1
        obtain ⟨A5, c5, rfl, _, _⟩ := own_form hoe5
        have hes : i64s (F.ends bs i) ++ [.int .i64 (q : Int)] = i64s (F.ends bs (i + 1)) := by rw [F.ends_snoc, ← HML.out, ← HQ.out]; simp
        rw [hes] at hoe5
        have hob6 : w5.ownsRow w1.heap.size 5 1 (.slice A3 (F.cat (bs.take (i + 1))).length c3) (F.cat (bs.take (i + 1))).length (u8s (F.cat (bs.take (i + 1)))) := by rw [← HML.out, ← HQ.out]; exact hob5
        have HBV : Hid (Value.slice A3 q c3 = .slice A3 (F.cat (bs.take (i + 1))).length c3) := Lib.hid (by rw [← HML.out, ← HQ.out])
        clear hes hg5 hoe4 hob4 hbel4 hs4 hoe3 hob3 hbel3 hs3 hob5
        go_wp2
        go_roundw
        case rel => exact ⟨i + 1, A3, c3, A5, c5, by go_num, by omega, HSM.out, HBV.out, rfl, hob6, hoe5, hbel5⟩
        case measure => simp [intOf]; omega
    · obtain rfl : i = bs.length := by omega
      rw [List.take_length] at hob hsm ⊢
      have hcl := F.cat_len hsm
      have hTB := F.cat_byt hsm hI.byt
      obtain ⟨k, hk, hkl⟩ : ∃ k : Nat, ((t : Int) % (((F.cat bs).length : Int) + 1)) = (k : Int) ∧ k ≤ (F.cat bs).length := ⟨t % ((F.cat bs).length + 1), by simp, by have := Nat.mod_lt t (show 0 < (F.cat bs).length + 1 by omega); omega⟩
      have hAL := F.all_cat bs k fun b hb => by have := hsm b hb; omega
      have hW := F.whole_le bs k
      have hWA := F.whole_at bs k
      obtain ⟨W, hWe⟩ : ∃ W, W = F.whole bs k := ⟨_, rfl⟩
      rw [← hWe] at hAL hW hWA
      obtain ⟨T, hT⟩ : ∃ T, T = F.cat bs := ⟨_, rfl⟩
      rw [← hT] at hcl hTB hk hkl hAL hob ⊢
      have hcc : T.length ≤ cb := by
        obtain ⟨_, _, h, h', _⟩ := own_form hob
        injection h with _ _ h
        subst h
        exact h'
      have hA := all_any _ Ab k cb (T.take k) wr (by simp; omega) ((own_rds hob).takeI k) (by simp; omega) (by simp; omega) (hTB.take k)
      unfold AllP at hA
      rw [hAL] at hA
      obtain ⟨nn, hnn⟩ : ∃ nn, nn = (F.cat (bs.take W)).length := ⟨_, rfl⟩
      simp only [← hnn] at hA
      have hnb : nn ≤ 20000 := by
        have h1 := F.cat_len (bs := bs.take W) fun b hb => hsm b (List.mem_of_mem_take hb)
        rw [← hnn] at h1
        simp at h1
        omega
      have HWA := Lib.hid hWA
      have HNN := Lib.hid hnn
      clear hob hT hAL hWA hnn hWe hlt hil
      go_wp2_with fail
      refine hA.mono ?_
      rintro e w2 ⟨Ag, cg, us, rfl, hog, hrg, hb2⟩
      have hul : us.length = W := by rw [hrg.1]; simp; omega
      rw [hul] at hog ⊢
      have hoe2 := own_keep hoe fun k _ hk => hb2.block k hk
      have hB2 := below_new hBr hb2
      clear hA hoe hbel hBr hb2
      go_wp2_with fail
      go_loop [69, 14] (fun iv mv => ∃ j m : Nat, iv = .int .i64 j ∧ mv = .int .i64 m ∧ j ≤ bs.length ∧ m ≤ bs.length ∧ Hid (m = min j W)) (fun iv _ => bs.length - (intOf iv).toNat)
      case atStart => exact ⟨0, 0, rfl, rfl, by omega, by omega, Lib.hid (by omega)⟩
      case round =>
        obtain ⟨j, m, rfl, rfl, hj, hmb, HM⟩ := hrel
        by_cases hjl : j < bs.length
        · obtain ⟨ae, hAe, _, hce⟩ := (own_rds hoe2).int (j := j) (by rw [F.ends_len]; exact hjl)
          subst hAe
          rw [F.ends_at bs hjl] at hce
          have hwa := HWA.out j hjl
          obtain ⟨E, hE⟩ : ∃ E, E = (F.cat (bs.take (j + 1))).length := ⟨_, rfl⟩
          rw [← hE] at hce hwa
          clear hE
          by_cases hEk : E ≤ k
          · have HW2 : Hid (m + 1 = min (j + 1) W) := Lib.hid (by have := hwa.1 hEk; have := HM.out; omega)
            have hmm : m < bs.length := by have := hwa.1 hEk; have := HM.out; omega
            clear hwa
            go_wp2
            go_round
            case rel => exact ⟨j + 1, m + 1, by go_num, by go_num, by omega, by omega, HW2⟩
            case measure => simp [intOf]; omega
          · have HW2 : Hid (m = min (j + 1) W) := Lib.hid (by have h1 : ¬ j < W := fun h => hEk (hwa.2 h); have := HM.out; omega)
            clear hwa
            go_wp2
            go_round
            case rel => exact ⟨j + 1, m, by go_num, rfl, by omega, hmb, HW2⟩
            case measure => simp [intOf]; omega
        · obtain rfl : m = W := by have := HM.out; omega
          clear HM
          have hB2s := hB2.size
          by_cases hm0 : m = 0
          · subst hm0
            obtain rfl : nn = 0 := by have := HNN.out; simpa [F.cat] using this
            clear hog
            go_wp2_with fail
            go_loop [106] (fun iv => iv = .int .i64 0) (fun _ => 0)
            case atStart => rfl
            case round =>
              obtain rfl := hrel
              go_wp2
              go_ret
              exact ⟨rfl, hB2⟩
          · obtain ⟨p, hp⟩ : ∃ p : Nat, m = p + 1 := ⟨m - 1, by omega⟩
            obtain ⟨ae, hAe, _, hce⟩ := (own_rds hoe2).int (j := p) (by rw [F.ends_len]; omega)
            subst hAe
            rw [F.ends_at bs (by omega), ← hp, ← HNN.out] at hce
            have hp1 : (m : Int) - 1 = (p : Int) := by omega
            have hm1 : ((m : Int) == 0) = false := by simp; omega
            have hpe : p < bs.length := by omega
            go_wp2_with fail
            clear hce hp1
            go_loopw [106] (fun iv wr => ∃ j : Nat, iv = .int .i64 j ∧ j ≤ m ∧ Drew w2 wr) (fun iv _ => m - (intOf iv).toNat)
            case atStart => exact ⟨0, rfl, by omega, Drew.refl _⟩
            case round =>
              obtain ⟨j, rfl, hjm, hd⟩ := hrel
              have hB3 : Below w.heap.size w wr := hB2.trans (hd.below _)
              by_cases hjl2 : j < m
              · have hju : j < us.length := by omega
                have hjb : j < bs.length := by omega
                obtain ⟨ag, hAg, _, hcg⟩ := (own_rds (hd.own hog)).at hju
                subst hAg
                obtain ⟨Aj, cj, hvj, hoj⟩ := hrg.2 j us[j] bs[j] (List.getElem?_eq_getElem hju) (by rw [List.getElem?_take, if_pos hjl2, List.getElem?_eq_getElem hjb])
                rw [hvj] at hcg
                obtain ⟨al, Al, cl, rfl, hcl', _, _, hrl⟩ := hI.at hB3 hjb
                have hoj' := hd.own hoj
                have hb300 := hsm _ (List.getElem_mem hjb)
                clear hvj hoj
                go_wp2_with fail
                refine (same_yes _ _ Aj Al cj cl bs[j] wr (own_rds hoj') hrl (by omega)).mono ?_
                rintro e w5 ⟨rfl, hd5⟩
                have hd6 := hd.trans hd5
                clear hd5 hcg hcl' hoj' hrl hd
                go_wp2
                go_roundw
                case rel => exact ⟨j + 1, by go_num, by omega, hd6⟩
                case measure => simp [intOf]; omega
              · go_wp2
                go_ret
                exact ⟨rfl, hB3⟩

theorem frameBack_walk {H : Type} (enc : TypeId × Value → H) (v0 v1 : Value) (w : World) (base : Nat) (d0 : DataW H) (p0 : List MemPlace) (d1 : DataW H) (p1 : List MemPlace)
    (o0 : Value.okWide Try.prog w .any base 36 v0) (k0 : DataW.Trod enc Try.prog w 0 (fun _ => true) true 36 v0 d0 p0) (o1 : Value.okWide Try.prog w .any base 40 v1) (k1 : DataW.Trod enc Try.prog w 0 (fun _ => true) true 40 v1 d1 p1) :
    Calls Try.prog 5 #[v0, v1] w fun e w' => e = .returned (.bool true) ∧ Below w.heap.size w w' := by
  obtain ⟨a, len, cap, vs, bs, rfl, hv, hbl, hlc, hcm, htop, hrow⟩ := arg_rows Try.underlying36 Try.underlying22 Try.underlying5 (by kernel_rfl) (by kernel_rfl) o0 k0
  obtain ⟨t, rfl, ht⟩ : ∃ t : Nat, v1 = .int .u16 (t : Int) ∧ t < 65536 := by
    obtain ⟨fuel, hf⟩ := k1
    obtain ⟨n, hn, _, hw⟩ := DataW.trod_int Try.underlying40 hf
    obtain ⟨m, rfl⟩ := okWide_int Try.underlying40 o1
    simp [Value.cells] at hn
    subst hn
    have e1 : IntKind.u16.min = 0 := by decide
    have e2 : IntKind.u16.max = 65535 := by decide
    simp [Lit.wf, e1, e2] at hw
    obtain ⟨x, rfl⟩ := Int.eq_ofNat_of_zero_le hw.1
    exact ⟨x, rfl, by omega⟩
  by_cases hl : len = 0 ∨ 20 < len
  · exact frameBack_out a len cap _ w hl (by omega)
  · subst hbl
    refine frameBack_yes a cap vs bs t w ⟨hv, htop, fun i u b hu hb => ?_, fun b hb c hc => ?_⟩ (by omega) (by omega) ht
    · obtain ⟨A, c, e, h1, h2, h3, _⟩ := hrow i u b hu hb
      exact ⟨A, c, e, h1, h2, h3⟩
    · obtain ⟨i, hi, rfl⟩ := List.getElem_of_mem hb
      obtain ⟨A, c', _, _, _, _, hw⟩ := hrow i vs[i] bs[i] (List.getElem?_eq_getElem (by omega)) (List.getElem?_eq_getElem hi)
      have := hw c hc
      have e3 : IntKind.u8.min = 0 := by decide
      have e4 : IntKind.u8.max = 255 := by decide
      simp [Lit.wf, e3, e4] at this
      omega
end Go.Proofs.Ytombbepgeimfmaa
