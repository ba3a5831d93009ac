/- Layer 14: the document's own: Write, Read, Mend. -/
import Derived.Test.YtfllebfegngdhaaLgMath
import Derived.Test.YtfllebfegngdhaaDkRef2
import Derived.Test.YtfllebfegngdhaaFramePut
import Derived.Test.YtfllebfegngdhaaFrameRefAll
namespace Go.Proofs.Ytfllebfegngdhaa
set_option linter.unusedVariables false
set_option linter.unusedSimpArgs false
open Go.ChangeShapes Go.WideShapes Go.ChangeAt Go.RowKit Go.Deep

section
variable {fp fq : Nat → Prop} {w w1 w2 w' : World} {g : Nat} {Z : Int} {L L' : List Int} {us us' : List Dk.U} {r r' : Value} {e e' : Ending}
/-- A disk's blocks lie in the heap. -/
theorem MD.lt (h : MD w fp g Z L us) : MD w (fun b => fp b ∧ b < w.heap.size) g Z L us := h.mono fun b hb hl => ⟨hb, hl⟩
theorem DskPost.wide (h : DskPost r Z L us (fun b => fp b ∧ b < w.heap.size) g w e w') : DskPost r Z L us fp g w e w' :=
  ⟨h.1, h.2.1.mono fun b hb _ => hb.imp (fun h => h.1) id, h.2.2.more fun b hb => .inl hb.1⟩
theorem dsk_below (hb : Below w.heap.size w w1) (h : DskPost r Z L us fp g w1 e w') : DskPost r Z L us fp g w e w' :=
  ⟨h.1, h.2.1.mono fun b hb' _ => hb'.imp id fun k => Nat.le_trans hb.size k, (Kp.of hb).trans h.2.2 fun b h => .inl h⟩
theorem dsk_more (h : DskPost r Z L us fp g w e w1) (k : DskPost r' Z L' us' (fun b => fp b ∨ w.heap.size ≤ b) g w1 e' w') : DskPost r' Z L' us' fp g w e' w' :=
  ⟨k.1, k.2.1.mono fun b hb _ => hb.elim id fun h' => .inr (Nat.le_trans h.2.2.size h'), h.2.2.trans k.2.2 fun b h => h⟩
theorem dsk_none (hM : MD w fp g Z L us) (hb : Below w.heap.size w w') : DskPost r Z L us fp g w (.returned r) w' :=
  ⟨rfl, (hM.new hb).mono fun b h _ => .inl h, .of hb⟩
end
theorem Owns.form {w : World} {base : Nat} {v : Value} {l : List Int} (h : Owns w base v l) : ∃ A c, v = .slice A l.length c ∧ l.length ≤ c ∧ w.ownsRow base 5 1 (.slice A l.length c) l.length (u8s l) := by
  obtain ⟨A, c, rfl, h⟩ := h
  obtain ⟨A', c', e, hc, _⟩ := own_form h
  injection e with e1 e2 e3
  subst e3
  exact ⟨A, c, rfl, hc, h⟩

set_option maxRecDepth 100000 in
set_option maxHeartbeats 4000000 in
theorem rlwrite_any {w : World} {fp : Nat → Prop} {g : Nat} {Z : Int} {L : List Int} {us : List Dk.U} (hM : MD w fp g Z L us) (hO : Dk.Ok Z L us) (hl : us.length ≤ 900000000)
    (S : Nat → Prop) (A : Option Addr) (n c : Nat) (xs : List Int) (hn : xs.length = n) (hr : Rds w S A (u8s xs)) (hx : Byt xs) (hn47 : n ≤ 140737488355328) :
    Calls Try.prog 12 #[.pointer (some ⟨g, 0, none⟩), .slice A n c] w (DskPost (.int .i64 (Lg.wrt Z L us xs).1) Z (Lg.wrt Z L us xs).2.1 (Lg.wrt Z L us xs).2.2 fp g w) := by
  by_cases h4 : 4096 < xs.length
  · have e : Lg.wrt Z L us xs = (6, L, us) := by unfold Lg.wrt; rw [if_pos h4]
    rw [e]
    have HP := Lib.hid (rfput_long A n c w (by omega) (by unfold maxLen; omega))
    have HM := Lib.hid hM
    clear hM e hr hn h4
    go_enter Try.func12, Try.ntmps12
    go_wp2_with fail
    refine HP.out.mono ?_
    rintro e w1 ⟨rfl, rfl⟩
    go_wp2
    go_ret
    exact dsk_none HM.out (Below.refl _ _)
  · have hE : Lg.wrt Z L us xs = if Z < ((Dk.aft L us).length : Int) + (F.put xs).length then (7, L, us) else (0, Dk.aft L us ++ F.put xs, []) := by unfold Lg.wrt; rw [if_neg h4]
    have hpl := F.put_len_le (b := xs) (by omega)
    have HP := Lib.hid (rfput_yes S A n c xs w hn.symm hr (by omega) hx)
    have hML := hM.lt
    have HAp : Hid (∀ (w1 : World) (B : Option Addr) (m d : Nat), Below w.heap.size w w1 → (F.put xs).length = m → w1.ownsRow w.heap.size 5 1 (.slice B m d) m (u8s (F.put xs)) → Calls Try.prog 18 #[.pointer (some ⟨g, 0, none⟩), .slice B m d] w1 (DskPost (.int .i64 (Dk.apE Z L us (F.put xs))) Z L (Dk.apU Z L us (F.put xs)) fp g w1)) := Lib.hid (fun w1 B m d hb hm hown =>
      (rappend_any (hML.new hb) hO hl (fun b => w.heap.size ≤ b) B m d (F.put xs) hm ((own_rds hown).mono fun b hb => hb.1) (fun b hb _ hf => by have := hf.2; omega) (by omega)).mono fun e w' h => ⟨h.1, h.2.1.mono fun b hb _ => hb.imp (fun h => h.1) id, h.2.2.more fun b hb => .inl hb.1⟩)
    have HSy : Hid (∀ (w2 : World) (fq : Nat → Prop), MD w2 fq g Z L (us ++ (F.put xs).map .b) → ((Dk.aft L us).length : Int) + (F.put xs).length ≤ Z → Calls Try.prog 36 #[.pointer (some ⟨g, 0, none⟩)] w2 (DskPost (.tuple #[]) Z (Dk.aft L us ++ F.put xs) [] fq g w2)) := Lib.hid (fun w2 fq hM2 hz => by
      have := rsync_any hM2 (hO.bytes _ hz) (by simp; omega)
      rwa [Dk.aft_app, Dk.aft_bytes] at this)
    have HE := Lib.hid hE
    obtain ⟨N, hN⟩ : ∃ N : Nat, (F.put xs).length = N := ⟨_, rfl⟩
    have HN := Lib.hid hN
    clear hM hML hr hE hn hN
    go_enter Try.func12, Try.ntmps12
    go_wp2_with fail
    refine HP.out.mono ?_
    rintro e w1 ⟨v, rfl, hv, hb1⟩
    obtain ⟨B, d, rfl, hd, hown⟩ := hv.form
    rw [HN.out] at hown ⊢
    have HC := Lib.hid (HAp.out w1 B N d hb1 HN.out hown)
    clear hown hv HAp
    by_cases hz : Z < ((Dk.aft L us).length : Int) + (F.put xs).length
    · have hW : Hid (Lg.wrt Z L us xs = (7, L, us)) := Lib.hid (by rw [HE.out, if_pos hz])
      have h1 : Dk.apE Z L us (F.put xs) = 7 := by unfold Dk.apE; rw [if_pos hz]
      have h2 : Dk.apU Z L us (F.put xs) = us := by unfold Dk.apU; rw [if_pos hz]
      rw [h1, h2] at HC
      clear hz h1 h2 HE hpl
      go_wp2_with fail
      refine HC.out.mono ?_
      rintro e w2 ⟨rfl, h1, h2⟩
      go_wp2
      go_ret
      rw [hW.out]
      exact dsk_below hb1 ⟨rfl, h1, h2⟩
    · have hW : Hid (Lg.wrt Z L us xs = (0, Dk.aft L us ++ F.put xs, [])) := Lib.hid (by rw [HE.out, if_neg hz])
      have h1 : Dk.apE Z L us (F.put xs) = 0 := by unfold Dk.apE; rw [if_neg hz]
      have h2 : Dk.apU Z L us (F.put xs) = us ++ (F.put xs).map .b := by unfold Dk.apU; rw [if_neg hz]
      rw [h1, h2] at HC
      have HZ : Hid (((Dk.aft L us).length : Int) + (F.put xs).length ≤ Z) := Lib.hid (by omega)
      clear hz h1 h2 HE hpl
      go_wp2_with fail
      refine HC.out.mono ?_
      rintro e w2 ⟨rfl, h1, h2⟩
      go_wp2_with fail
      refine (HSy.out w2 _ h1 HZ.out).mono ?_
      intro e w3 h3
      obtain ⟨rfl, h4, h5⟩ := h3
      go_wp2
      go_ret
      rw [hW.out]
      exact dsk_below hb1 (dsk_more (r := .tuple #[]) (e := .returned (.tuple #[])) ⟨rfl, h1, h2⟩ ⟨rfl, h4, h5⟩)

/-- Slices that each read as their bytes. -/
def BRd (w : World) (S : Nat → Prop) (vs : List Value) (bs : List (List Int)) : Prop := vs.length = bs.length ∧ ∀ (i : Nat) v b, vs[i]? = some v → bs[i]? = some b → ∃ A c, v = .slice A b.length c ∧ Rds w S A (u8s b)
theorem BRd.keep {w w' : World} {S : Nat → Prop} {vs : List Value} {bs : List (List Int)} (h : BRd w S vs bs) (hk : ∀ b, S b → b < w.heap.size → w'.heap[b]? = w.heap[b]?) : BRd w' S vs bs :=
  ⟨h.1, fun i v b hv hb => by obtain ⟨A, c, e, hr⟩ := h.2 i v b hv hb; exact ⟨A, c, e, hr.keep hk⟩⟩
theorem BRd.new {w w' : World} {S : Nat → Prop} {vs : List Value} {bs : List (List Int)} (h : BRd w S vs bs) (hb : Below w.heap.size w w') : BRd w' S vs bs := h.keep fun b _ hl => hb.block b hl
theorem BRd.mono {w : World} {S T : Nat → Prop} {vs : List Value} {bs : List (List Int)} (h : BRd w S vs bs) (hs : ∀ b, S b → T b) : BRd w T vs bs :=
  ⟨h.1, fun i v b hv hb => by obtain ⟨A, c, e, hr⟩ := h.2 i v b hv hb; exact ⟨A, c, e, hr.mono hs⟩⟩
theorem RRows.brd {w : World} {vs : List Value} {bs : List (List Int)} (h : RRows w vs bs) : BRd w (fun _ => True) vs bs :=
  ⟨h.1, fun i v b hv hb => by obtain ⟨A, c, e, _, hr⟩ := (h.2 i v b hv hb).rds; exact ⟨A, c, e, hr⟩⟩
/-- Records, and whether bytes stand behind them. -/
def LogPost (S : Nat → Prop) (bs : List (List Int)) (t : Bool) (w : World) (e : Ending) (w' : World) : Prop :=
  ∃ (A : Option Addr) (N c : Nat) (vs : List Value), e = .returned (.tuple #[.slice A N c, .bool t]) ∧ N = vs.length ∧ Rds w' (fun b => w.heap.size ≤ b) A vs ∧ BRd w' S vs bs ∧ Below w.heap.size w w'
/-- And each of them in a row that its capacity holds. -/
def LogRows (bs : List (List Int)) (t : Bool) (w : World) (e : Ending) (w' : World) : Prop :=
  ∃ (A : Option Addr) (N c : Nat) (vs : List Value), e = .returned (.tuple #[.slice A N c, .bool t]) ∧ N = vs.length ∧ Rds w' (fun b => w.heap.size ≤ b) A vs ∧ RRows w' vs bs ∧ Below w.heap.size w w'
set_option maxRecDepth 100000 in
set_option maxHeartbeats 4000000 in
theorem rlread_rows {w : World} {fp : Nat → Prop} {g : Nat} {Z : Int} {L : List Int} {us : List Dk.U} (hM : MD w fp g Z L us) (hO : Dk.Ok Z L us) (hB : Lg.By L us) (hl : us.length ≤ 900000000) :
    Calls Try.prog 24 #[.pointer (some ⟨g, 0, none⟩)] w (LogRows (F.all (Dk.aft L us)).1 (Lg.torn L us) w) := by
  have HR := Lib.hid (rread_any hM hO (by omega))
  have hlen := hO.last
  have hhi := hO.hi
  have hby := hB.aft
  have HT : Hid (Lg.torn L us = decide ((F.all (Dk.aft L us)).2 < (Dk.aft L us).length)) := Lib.hid rfl
  generalize Lg.torn L us = t at *
  generalize Dk.aft L us = l at *
  have HLen : Hid (l.length ≤ 16384) := Lib.hid (by omega)
  have HBy := Lib.hid hby
  clear hM hO hB hlen hhi hby
  go_enter Try.func24, Try.ntmps24
  go_wp2_with fail
  refine HR.out.mono ?_
  rintro e w1 ⟨A, c, rfl, h1, hb1⟩
  obtain ⟨A', c', e', hc, hr⟩ := h1.form
  injection e' with e1 e2 e3
  subst e1 e3
  have HAl := Lib.hid (rall_any _ A l.length c l w1 rfl hr hc (by have := HLen.out; omega) HBy.out)
  clear h1 hr hc HR
  obtain ⟨ln, hln⟩ : ∃ ln : Nat, l.length = ln := ⟨_, rfl⟩
  have HLn := Lib.hid hln
  rw [hln] at HAl ⊢
  clear hln
  go_wp2_with fail
  refine HAl.out.mono ?_
  rintro e w2 ⟨A2, c2, vs, rfl, hown, hrr, hb2⟩
  obtain ⟨q, hq⟩ : ∃ q : Nat, (F.all l).2 = q := ⟨_, rfl⟩
  obtain ⟨N, hN⟩ : ∃ N : Nat, N = vs.length := ⟨_, rfl⟩
  have HN := Lib.hid hN
  rw [← hN] at hown ⊢
  rw [hq] at HT ⊢
  rw [HLn.out] at HT
  have HP : Hid (∃ vs : List Value, N = vs.length ∧ Rds w2 (fun b => w.heap.size ≤ b) A2 vs ∧ RRows w2 vs (F.all l).1 ∧ Below w.heap.size w w2) := Lib.hid ⟨vs, hN, (own_rds hown).mono fun b hb => Nat.le_trans hb1.size hb.1, hrr, below_new hb1 hb2⟩
  clear hq hN hown hrr hb2 hb1 HAl HN HLen HBy HLn
  by_cases hlt : q < ln
  · have ht : t = true := by rw [HT.out]; simpa using hlt
    have hlt2 : (q : Int) < (ln : Int) := by omega
    subst ht
    clear HT
    go_wp2
    go_ret2
    obtain ⟨vs, k1, k2, k3, k4⟩ := HP.out
    exact ⟨A2, N, c2, vs, rfl, k1, k2, k3, k4⟩
  · have ht : t = false := by rw [HT.out]; simpa using hlt
    have hlt2 : ¬ (q : Int) < (ln : Int) := by omega
    subst ht
    clear HT
    go_wp2
    go_ret2
    obtain ⟨vs, k1, k2, k3, k4⟩ := HP.out
    exact ⟨A2, N, c2, vs, rfl, k1, k2, k3, k4⟩
theorem rlread_any {w : World} {fp : Nat → Prop} {g : Nat} {Z : Int} {L : List Int} {us : List Dk.U} (hM : MD w fp g Z L us) (hO : Dk.Ok Z L us) (hB : Lg.By L us) (hl : us.length ≤ 900000000) :
    Calls Try.prog 24 #[.pointer (some ⟨g, 0, none⟩)] w (LogPost (fun _ => True) (F.all (Dk.aft L us)).1 (Lg.torn L us) w) :=
  (rlread_rows hM hO hB hl).mono fun _ _ ⟨A, N, c, vs, h1, h2, h3, h4, h5⟩ => ⟨A, N, c, vs, h1, h2, h3, h4.brd, h5⟩
set_option maxRecDepth 100000 in
set_option maxHeartbeats 4000000 in
theorem rlmend_any {w : World} {fp : Nat → Prop} {g : Nat} {Z : Int} {L : List Int} {us : List Dk.U} (hM : MD w fp g Z L us) (hO : Dk.Ok Z L us) (hB : Lg.By L us) (hl : us.length ≤ 900000000) :
    Calls Try.prog 14 #[.pointer (some ⟨g, 0, none⟩)] w (DskPost (.tuple #[]) Z (Lg.mnd L us).1 (Lg.mnd L us).2 fp g w) := by
  have HR := Lib.hid (rread_any hM hO (by omega))
  have hlen := hO.last
  have hhi := hO.hi
  have hby := hB.aft
  have hle := F.all_le (Dk.aft L us)
  have HE : Hid (Lg.mnd L us = if (F.all (Dk.aft L us)).2 < (Dk.aft L us).length then ((Dk.aft L us).take (F.all (Dk.aft L us)).2, []) else (L, us)) := Lib.hid rfl
  have HSw : Hid (∀ (w2 : World) (A : Option Addr) (q c : Nat), Below w.heap.size w w2 → q ≤ (Dk.aft L us).length → Rds w2 (fun _ => True) A (u8s ((Dk.aft L us).take q)) → Calls Try.prog 22 #[.pointer (some ⟨g, 0, none⟩), .slice A q c] w2 (DskPost (.int .i64 0) Z L (us ++ [.s ((Dk.aft L us).take q)]) fp g w2)) := Lib.hid (fun w2 A q c hb hq hr => by
    have hq' : ((Dk.aft L us).take q).length = q := by rw [List.length_take]; omega
    have h1 : Dk.swE Z ((Dk.aft L us).take q) = 0 := by unfold Dk.swE; rw [if_neg (by rw [hq']; omega)]
    have h2 : Dk.swU Z us ((Dk.aft L us).take q) = us ++ [.s ((Dk.aft L us).take q)] := by unfold Dk.swU; rw [if_neg (by rw [hq']; omega)]
    have := rswap_any (hM.new hb) hl _ A q c _ hq' hr (by omega)
    rwa [h1, h2] at this)
  have HSy : Hid (∀ (w2 : World) (fq : Nat → Prop) (q : Nat), MD w2 fq g Z L (us ++ [.s ((Dk.aft L us).take q)]) → Calls Try.prog 36 #[.pointer (some ⟨g, 0, none⟩)] w2 (DskPost (.tuple #[]) Z ((Dk.aft L us).take q) [] fq g w2)) := Lib.hid (fun w2 fq q hM2 => by
    have := rsync_any hM2 (hO.swap _ (by rw [List.length_take]; omega)) (by simp; omega)
    rwa [Dk.aft_app] at this)
  have HM := Lib.hid hM
  have HLen : Hid ((Dk.aft L us).length ≤ 16384) := Lib.hid (by omega)
  have HBy := Lib.hid hby
  have HLe := Lib.hid hle
  clear hM hO hB hlen hhi hby hle
  generalize Dk.aft L us = l at *
  go_enter Try.func14, Try.ntmps14
  go_wp2_with fail
  refine HR.out.mono ?_
  rintro e w1 ⟨A, c, rfl, h1, hb1⟩
  obtain ⟨A', c', e', hc, hr⟩ := h1.form
  injection e' with e1 e2 e3
  subst e1 e3
  have HAl := Lib.hid (rall_any _ A l.length c l w1 rfl hr hc (by have := HLen.out; omega) HBy.out)
  have HRd := Lib.hid hr
  clear h1 hr HR
  obtain ⟨ln, hln⟩ : ∃ ln : Nat, l.length = ln := ⟨_, rfl⟩
  have HLn := Lib.hid hln
  rw [hln] at HAl hc ⊢
  clear hln
  go_wp2_with fail
  refine HAl.out.mono ?_
  rintro e w2 ⟨A2, c2, vs, rfl, hown, hrr, hb2⟩
  obtain ⟨q, hq⟩ : ∃ q : Nat, (F.all l).2 = q := ⟨_, rfl⟩
  rw [hq] at HE HLe ⊢
  rw [HLn.out] at HE HLe
  have hb02 := below_new hb1 hb2
  have HRq : Hid (Rds w2 (fun _ => True) A (u8s (l.take q))) := Lib.hid (by
    have := (HRd.out.new hb2).take (k := q)
    rw [← List.map_take] at this
    exact this.mono fun _ _ => trivial)
  have hqn := HLe.out
  have HSw2 := Lib.hid (fun c => HSw.out w2 A q c hb02 (by rw [HLn.out]; exact hqn) HRq.out)
  clear hq hown hrr hb2 hb1 HAl HRd HBy HLen HSw HLe
  by_cases hlt : q < ln
  · have HV : Hid (Lg.mnd L us = (l.take q, [])) := Lib.hid (by rw [HE.out, if_pos hlt])
    have hlt2 : (q : Int) < (ln : Int) := by omega
    have hqc : q ≤ c := by omega
    clear HE
    go_wp2_with fail
    refine (HSw2.out _).mono ?_
    rintro e w3 ⟨rfl, h3, h4⟩
    go_wp2_with fail
    refine (HSy.out w3 _ q h3).mono ?_
    rintro e w4 ⟨rfl, h5, h6⟩
    go_wp2
    go_end0
    rw [HV.out]
    exact dsk_below hb02 (dsk_more (r := .tuple #[]) (e := .returned (.tuple #[])) ⟨rfl, h3, h4⟩ ⟨rfl, h5, h6⟩)
  · have HV : Hid (Lg.mnd L us = (L, us)) := Lib.hid (by rw [HE.out, if_neg hlt])
    have hlt2 : ¬ (q : Int) < (ln : Int) := by omega
    clear HE
    go_wp2
    go_end0
    rw [HV.out]
    exact dsk_none HM.out hb02
end Go.Proofs.Ytfllebfegngdhaa
