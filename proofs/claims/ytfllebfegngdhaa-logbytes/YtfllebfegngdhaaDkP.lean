/- Layer 13: the program's disk. -/
import Derived.Test.YtfllebfegngdhaaDkC
namespace Go.Proofs.Ytfllebfegngdhaa
set_option linter.unusedVariables false
set_option linter.unusedSimpArgs false
open Go.ChangeShapes Go.WideShapes Go.ChangeAt Go.RowKit Go.Deep

theorem Try.rowDkF : (Try.prog.info? 76).map (fun i => (i.zero, i.size, i.bytes)) = some (some .nilFunc, 1, 8) := by kernel_rfl
theorem fvs_one (l : List Dk.C) : ∀ u ∈ l.map Dk.C.fv, u.oneCell' = true := by
  intro u hu
  obtain ⟨x, _, rfl⟩ := List.mem_map.1 hu
  rfl
theorem fn_rds (w : World) (x : Dk.C) (t : TypeId) : Rds (w.alloc (.cells #[x.fv] t)) (fun _ => True) (some ⟨w.heap.size, 0, none⟩) ([x].map Dk.C.fv) := by
  intro j u hu
  match j, hu with
  | 0, hu => simp at hu; subst hu; exact ⟨_, rfl, trivial, by simp [M.addMk]⟩
/-- The disk's rows: what lasts, what waits. -/
structure PIn (w : World) (fp : Nat → Prop) (lv : Value) (L : List Int) (wv : Value) (l : List Dk.C) : Prop where
  lasts : ByR w fp lv L
  row : w.ownsRow 0 76 1 wv l.length (l.map Dk.C.fv)
  rowi : ∀ b, wv.ownBlock = some b → fp b
  caps : ∀ x ∈ l, x.Ok w fp
/-- The program's disk at block g: all its blocks are of fp. -/
structure PDk (w : World) (fp : Nat → Prop) (g : Nat) (Z : Int) (lv : Value) (L : List Int) (wv : Value) (l : List Dk.C) (n m : Int) : Prop where
  blo : Blo w g 63 #[.int .i64 Z, lv, wv, .int .i64 n, .int .i64 m]
  inn : fp g
  rows : PIn w fp lv L wv l
def PD (w : World) (fp : Nat → Prop) (g : Nat) (Z : Int) (L : List Int) (us : List Dk.U) : Prop :=
  ∃ lv wv l, us = Dk.Cs l ∧ (∀ x ∈ l, x.us ≠ []) ∧ PDk w fp g Z lv L wv l (us.length : Int) ((Dk.aft L us).length : Int)
section
variable {fp fq : Nat → Prop} {w w' : World} {g : Nat} {Z : Int} {L : List Int} {us : List Dk.U} {lv wv : Value} {l : List Dk.C} {n m : Int}
theorem PIn.keep (h : PIn w fp lv L wv l) (hk : ∀ b, fp b → b < w.heap.size → w'.heap[b]? = w.heap[b]?) : PIn w' fp lv L wv l :=
  ⟨h.lasts.keep hk, own_keepK h.row fun b e hl => hk b (h.rowi b e) hl, h.rowi, fun x hx => (h.caps x hx).keep hk⟩
theorem PIn.mono (h : PIn w fp lv L wv l) (hf : ∀ b, fp b → b < w.heap.size → fq b) : PIn w fq lv L wv l :=
  ⟨h.lasts.mono hf, h.row, fun b e => hf b (h.rowi b e) (World.ownsRow.lt h.row b e).2, fun x hx => (h.caps x hx).mono hf⟩
/-- A store into the disk itself. -/
theorem PIn.set (h : PIn w fp lv L wv l) {cs : Array Value} (hb : Blo w g 63 cs) (i : Nat) (u : Value) : PIn (w.setCell ⟨g, i, none⟩ u) fp lv L wv l := by
  have hg : w.grownBy (w.setCell ⟨g, i, none⟩ u) (some g) := gb_set (World.grownBy.refl _ _) (.inl rfl) _
  refine ⟨h.lasts.other hg hb (by decide), own_keepK h.row fun b e hl => hg.block b hl fun e' => ?_, h.rowi, fun x hx => (h.caps x hx).otherO hg (fun b e => ⟨cs, by injection e with e; rw [← e]; exact hb⟩) (by decide) (by decide)⟩
  injection e' with e'
  subst e'
  obtain ⟨cs', hc⟩ := own_typed h.row e
  exact Blo.typeNe hc hb (by decide) rfl
theorem PDk.keep (h : PDk w fp g Z lv L wv l n m) (hk : ∀ b, fp b → b < w.heap.size → w'.heap[b]? = w.heap[b]?) : PDk w' fp g Z lv L wv l n m := ⟨h.blo.keep (hk g h.inn h.blo.lt), h.inn, h.rows.keep hk⟩
theorem PDk.mono (h : PDk w fp g Z lv L wv l n m) (hf : ∀ b, fp b → b < w.heap.size → fq b) : PDk w fq g Z lv L wv l n m := ⟨h.blo, hf g h.inn h.blo.lt, h.rows.mono hf⟩
theorem PDk.new (h : PDk w fp g Z lv L wv l n m) (hb : Below w.heap.size w w') : PDk w' fp g Z lv L wv l n m := h.keep fun b _ hl => hb.block b hl
theorem PDk.setN (h : PDk w fp g Z lv L wv l n m) (k : Int) : PDk (w.setCell ⟨g, 3, none⟩ (.int .i64 k)) fp g Z lv L wv l k m := ⟨by simpa using h.blo.put 3 (.int .i64 k), h.inn, h.rows.set h.blo 3 _⟩
theorem PDk.setM (h : PDk w fp g Z lv L wv l n m) (k : Int) : PDk (w.setCell ⟨g, 4, none⟩ (.int .i64 k)) fp g Z lv L wv l n k := ⟨by simpa using h.blo.put 4 (.int .i64 k), h.inn, h.rows.set h.blo 4 _⟩
theorem PD.keep (h : PD w fp g Z L us) (hk : ∀ b, fp b → b < w.heap.size → w'.heap[b]? = w.heap[b]?) : PD w' fp g Z L us := by
  obtain ⟨lv, wv, l, h1, h2, h3⟩ := h
  exact ⟨lv, wv, l, h1, h2, h3.keep hk⟩
theorem PD.mono (h : PD w fp g Z L us) (hf : ∀ b, fp b → b < w.heap.size → fq b) : PD w fq g Z L us := by
  obtain ⟨lv, wv, l, h1, h2, h3⟩ := h
  exact ⟨lv, wv, l, h1, h2, h3.mono hf⟩
theorem Dk.Cs_len {l : List Dk.C} (h : ∀ x ∈ l, x.us ≠ []) : l.length ≤ (Dk.Cs l).length := by
  induction l with
  | nil => simp
  | cons x l ih =>
    have h1 := ih fun y hy => h y (List.mem_cons_of_mem _ hy)
    have h2 := List.length_pos_iff.2 (h x (List.mem_cons_self ..))
    have e : Dk.Cs (x :: l) = x.us ++ Dk.Cs l := by simp [Dk.Cs]
    rw [e, List.length_append, List.length_cons]
    omega
theorem pdk_cells {t : TypeId} {a b c d e : Value} (h : Blo w g t #[a, b, c, d, e]) :
    w.cell? ⟨g, 0, none⟩ = some a ∧ w.cell? ⟨g, 1, none⟩ = some b ∧ w.cell? ⟨g, 2, none⟩ = some c ∧ w.cell? ⟨g, 3, none⟩ = some d ∧ w.cell? ⟨g, 4, none⟩ = some e :=
  ⟨by simpa using h.cell 0, by simpa using h.cell 1, by simpa using h.cell 2, by simpa using h.cell 3, by simpa using h.cell 4⟩
theorem pdk_fro {t : TypeId} {cs : Array Value} (h : Blo w g t cs) :
    w.frozen? ⟨g, 0, none⟩ = false ∧ w.frozen? ⟨g, 1, none⟩ = false ∧ w.frozen? ⟨g, 2, none⟩ = false ∧ w.frozen? ⟨g, 3, none⟩ = false ∧ w.frozen? ⟨g, 4, none⟩ = false :=
  ⟨h.frozen 0, h.frozen 1, h.frozen 2, h.frozen 3, h.frozen 4⟩
end

set_option maxRecDepth 100000 in
set_option maxHeartbeats 4000000 in
theorem pafter_any {w : World} {fp : Nat → Prop} {g : Nat} {Z : Int} {lv : Value} {L : List Int} {wv : Value} {l : List Dk.C} {n m : Int} (hM : PDk w fp g Z lv L wv l n m) (keep : Int) (K : Nat) (hK : max keep 0 = (K : Int)) (hk : keep < 9223372036854775808) (hl : l.length ≤ 1000000000)
    (hb : ∀ k, (Dk.aft L ((Dk.Cs l).take k)).length ≤ 16384) :
    Calls Try.prog 46 #[.pointer (some ⟨g, 0, none⟩), .int .i64 keep] w (NewB (Dk.aft L ((Dk.Cs l).take K)) w) := by
  have hb0 : L.length ≤ 16384 := by simpa [Dk.aft] using hb 0
  have hKl : K < 9223372036854775808 := by omega
  obtain ⟨Al, cl, elv, hcl, hLr⟩ := hM.rows.lasts.form
  obtain ⟨Aw, cw, ewv, hcw, _⟩ := own_form hM.rows.row
  have hro := hM.rows.row
  rw [ewv] at hro
  have hWr : Rds w fp Aw (l.map Dk.C.fv) := (own_rds hro).mono fun b hb => hM.rows.rowi b (by rw [ewv]; exact hb.2)
  have hcaps := hM.rows.caps
  obtain ⟨k0, k1, k2, _⟩ := pdk_cells hM.blo
  rw [elv] at k1
  obtain ⟨R, hR⟩ : ∃ R : Nat → List Int, R = fun i => Dk.Rk L l K i := ⟨_, rfl⟩
  obtain ⟨Q, hQ⟩ : ∃ Q : Nat → Nat, Q = fun i => Dk.Kk l K i := ⟨_, rfl⟩
  have hR0 : R 0 = L := by rw [hR]; simp [Dk.Rk, Dk.Cs, Dk.aft]
  have hQ0 : Q 0 = K := by rw [hQ]; simp [Dk.Kk, Dk.Cs]
  have hRs : ∀ i (h : i < l.length), R (i + 1) = l[i].go (R i) (Q i) := fun i h => by rw [hR, hQ]; exact Dk.Rk_step L l K h
  have hQs : ∀ i (h : i < l.length), Q (i + 1) = Q i - l[i].us.length := fun i h => by rw [hQ]; exact Dk.Kk_step l K h
  have hQb : ∀ i, Q i ≤ K := fun i => by rw [hQ]; exact Nat.sub_le _ _
  have hRb : ∀ i, i ≤ l.length → (R i).length ≤ 16384 := fun i h => by
    rw [hR]
    show (Dk.aft L ((Dk.Cs (l.take i)).take K)).length ≤ 16384
    have e : Dk.Cs l = Dk.Cs (l.take i) ++ Dk.Cs (l.drop i) := by rw [← Dk.Cs_app, List.take_append_drop]
    have h1 := hb (min K (Dk.Cs (l.take i)).length)
    rw [e, List.take_append_of_le_length (by omega), ← List.take_take, List.take_length] at h1
    exact h1
  have hRn : Dk.aft L ((Dk.Cs l).take K) = R l.length := by rw [hR]; simp [Dk.Rk]
  rw [hRn]
  clear hRn hR hQ hb
  have HR0 := Lib.hid hR0
  have HQ0 := Lib.hid hQ0
  have HRs := Lib.hid hRs
  have HQs := Lib.hid hQs
  have HQb := Lib.hid hQb
  have HRb := Lib.hid hRb
  have HC := Lib.hid (pclone_any w fp Al L.length cl L rfl hLr (by omega))
  have HM := Lib.hid hM
  clear hR0 hQ0 hRs hQs hQb hRb hLr hro
  go_enter Try.func46, Try.ntmps46
  go_wp2_with fail
  refine HC.out.mono ?_
  rintro e w1 ⟨A1, c1, rfl, h1, h2⟩
  obtain ⟨k0, k1, k2, _⟩ := pdk_cells (HM.out.new h2).blo
  rw [ewv] at k2
  have ho1 : w1.ownsRow w.heap.size 5 1 (.slice A1 L.length c1) L.length (u8s L) := own_base h1.own h1.inn
  clear h1
  go_wp2_with fail
  go_loopw [5, 6, 21] (fun tv kv iv wr => ∃ (i : Nat) (A : Option Addr) (c : Nat), iv = .int .i64 i ∧ i ≤ l.length ∧ tv = .slice A (R i).length c ∧ kv = .int .i64 (Q i : Int) ∧ wr.ownsRow w.heap.size 5 1 (.slice A (R i).length c) (R i).length (u8s (R i)) ∧ Below w.heap.size w wr) (fun _ _ iv _ => l.length - (intOf iv).toNat)
  case atStart => exact ⟨0, A1, c1, rfl, Nat.zero_le _, by rw [HR0.out], by rw [HQ0.out], by rw [HR0.out]; exact ho1, h2⟩
  case round =>
    obtain ⟨i, A, c, rfl, hi', rfl, rfl, ho, hb⟩ := hrel
    clear ho1 h2 k0 k1 k2
    have hbs := hb.size
    by_cases hlt : i < l.length
    · obtain ⟨ad, rfl, _, c0⟩ := (hWr.new hb).at (j := i) (by simpa using hlt)
      rw [List.getElem_map] at c0
      have hX := (hcaps l[i] (List.getElem_mem hlt)).keep (w' := wr) fun b _ hl => hb.block b hl
      have hR1 := HRs.out i hlt
      have hQ1 := HQs.out i hlt
      have hlb := HRb.out (i + 1) (by omega)
      have hqb := HQb.out i
      obtain ⟨x, hx⟩ : ∃ x, x = l[i] := ⟨_, rfl⟩
      rw [← hx] at c0 hX hR1 hQ1
      clear hx
      obtain ⟨sw, xs, p, v⟩ := x
      cases sw with
      | true =>
        replace c0 : wr.cell? (ad.add i) = some (.func (.func 58) #[] #[.pointer (some ⟨p, 0, none⟩)]) := c0
        replace hR1 : R (i + 1) = if Q i = 0 then R i else xs := hR1
        replace hQ1 : Q (i + 1) = Q i - 1 := hQ1
        have HA := pswp1_any ho hbs hX (Q i) (by omega) (fun h => by rw [hR1, if_neg h] at hlb; exact hlb)
        rw [← hR1, ← hQ1] at HA
        replace HA := Lib.hid HA
        clear hX ho hR1 hQ1
        go_wp2_with fail
        refine HA.out.mono ?_
        rintro e w2 ⟨A2, c2, rfl, ho2, hb2⟩
        have hb02 := hb.trans hb2
        clear c0 hb2 hb
        go_wp2
        go_roundw
        case rel => exact ⟨i + 1, A2, c2, by go_num, by omega, rfl, rfl, ho2, hb02⟩
        case measure => simp [intOf]; omega
      | false =>
        replace c0 : wr.cell? (ad.add i) = some (.func (.func 57) #[] #[.pointer (some ⟨p, 0, none⟩)]) := c0
        replace hR1 : R (i + 1) = R i ++ xs.take (Q i) := hR1
        replace hQ1 : Q (i + 1) = Q i - xs.length := by rw [hQ1]; simp [Dk.C.us]
        have HA := papp1_any ho hbs hX (Q i) (by omega) (by rw [← hR1]; exact hlb)
        rw [← hR1, ← hQ1] at HA
        replace HA := Lib.hid HA
        clear hX ho hR1 hQ1
        go_wp2_with fail
        refine HA.out.mono ?_
        rintro e w2 ⟨A2, c2, rfl, ho2, hb2⟩
        have hb02 := hb.trans hb2
        clear c0 hb2 hb
        go_wp2
        go_roundw
        case rel => exact ⟨i + 1, A2, c2, by go_num, by omega, rfl, rfl, ho2, hb02⟩
        case measure => simp [intOf]; omega
    · have e : i = l.length := by omega
      have HP : Hid (NewB (R l.length) w (.returned (.slice A (R i).length c)) wr) := Lib.hid (by subst e; exact ⟨A, c, rfl, ⟨own_monoK ho (Nat.zero_le _), fun b e => (World.ownsRow.lt ho b e).1⟩, hb⟩)
      clear ho hb e
      go_wp2
      go_ret
      exact HP.out

/-- What a step of the program's leaves. -/
def PskPost (r : Value) (Z : Int) (L : List Int) (us : List Dk.U) (fp : Nat → Prop) (g : Nat) (w : World) (e : Ending) (w' : World) : Prop :=
  e = .returned r ∧ PD w' (fun b => fp b ∨ w.heap.size ≤ b) g Z L us ∧ Kp fp w w'
def PNewPost (Z : Int) (w : World) (e : Ending) (w' : World) : Prop :=
  if 1 ≤ Z ∧ Z ≤ 16384 then ∃ g, e = .returned (.tuple #[.pointer (some ⟨g, 0, none⟩), .int .i64 0]) ∧ PD w' (fun b => w.heap.size ≤ b) g Z [] [] ∧ Below w.heap.size w w'
  else e = .returned (.tuple #[.pointer none, .int .i64 2]) ∧ Below w.heap.size w w'

/-- One write more. -/
theorem pin_push {w w2 : World} {fp : Nat → Prop} {g : Nat} {Z : Int} {lv : Value} {L : List Int} {wv v' : Value} {l : List Dk.C} {n m : Int} (h : PDk w fp g Z lv L wv l n m) (x : Dk.C) (hx : x.Ok w fp)
    (hr : w2.ownsRow 0 76 1 v' (l.length + 1) (l.map Dk.C.fv ++ [x].map Dk.C.fv)) (hg : w.grownBy w2 wv.ownBlock) {N : Nat} (hN : w.heap.size ≤ N + 1) (hv : v'.ownBlock = wv.ownBlock ∨ v'.ownBlock = some N) (hf : fp N) :
    Blo w2 g 63 #[.int .i64 Z, lv, wv, .int .i64 n, .int .i64 m] ∧ PDk (w2.setCell ⟨g, 2, none⟩ v') fp g Z lv L v' (l ++ [x]) n m ∧ Kp fp w (w2.setCell ⟨g, 2, none⟩ v') := by
  have ho : ∀ b, wv.ownBlock = some b → ∃ cs, Blo w b 76 cs := fun b e => own_typed h.rows.row e
  have hB2 : Blo w2 g 63 #[.int .i64 Z, lv, wv, .int .i64 n, .int .i64 m] := h.blo.keep (hg.block g h.blo.lt fun e => by
    obtain ⟨cs, hc⟩ := ho g e.symm
    exact Blo.typeNe hc h.blo (by decide) rfl)
  have hP : PIn w2 fp lv L v' (l ++ [x]) := by
    refine ⟨h.rows.lasts.otherO hg ho (by decide), ?_, ?_, ?_⟩
    · rw [List.map_append, List.length_append]; exact hr
    · intro b e
      rcases hv with hv | hv
      · rw [hv] at e; exact h.rows.rowi b e
      · rw [hv] at e; injection e with e; rw [← e]; exact hf
    · intro y hy
      rcases List.mem_append.1 hy with hy | hy
      · exact (h.rows.caps y hy).otherO hg ho (by decide) (by decide)
      · have : y = x := by simpa using hy
        subst this
        exact hx.otherO hg ho (by decide) (by decide)
  exact ⟨hB2, ⟨by simpa using hB2.put 2 v', h.inn, hP.set hB2 2 v'⟩, (Kp.gb hg fun k e => .inl (h.rows.rowi k e)).trans (fq := fp) (kp_set (p := ⟨g, 2, none⟩) h.inn _) fun b => .inl⟩
/-- wait: behind it one write more waits, if it has units. -/
def WaitPost (fp : Nat → Prop) (g : Nat) (Z : Int) (lv : Value) (L : List Int) (l : List Dk.C) (n m : Int) (x : Dk.C) (w : World) (e : Ending) (w' : World) : Prop :=
  ∃ wv' l', e = .returned (.tuple #[]) ∧ Dk.Cs l' = Dk.Cs l ++ x.us ∧ ((∀ x ∈ l, x.us ≠ []) → ∀ x ∈ l', x.us ≠ []) ∧ PDk w' (fun b => fp b ∨ w.heap.size ≤ b) g Z lv L wv' l' (n + x.us.length) m ∧ Kp fp w w'
set_option maxRecDepth 100000 in
set_option maxHeartbeats 4000000 in
theorem pwaits_any {w : World} {fp : Nat → Prop} {g : Nat} {Z : Int} {lv : Value} {L : List Int} {wv : Value} {l : List Dk.C} {n m : Int} (hM : PDk w fp g Z lv L wv l n m) (x : Dk.C) (hx : x.Ok w fp) (hl : l.length ≤ 900000000) (hn0 : 0 ≤ n) (hn : n ≤ 1000000000) (hu : x.us.length ≤ 1000000000) (u : Int) (hu' : u = (x.us.length : Int)) :
    Calls Try.prog 44 #[.pointer (some ⟨g, 0, none⟩), x.fv, .int .i64 u] w (WaitPost fp g Z lv L l n m x w) := by
  by_cases h0 : u = 0
  · have hP : WaitPost fp g Z lv L l n m x w (.returned (.tuple #[])) w := ⟨wv, l, rfl, by rw [List.length_eq_zero_iff.1 (show x.us.length = 0 by omega), List.append_nil], fun h => h, by
      have e : x.us.length = 0 := by omega
      rw [e]
      simpa using hM.mono fun b hb _ => .inl hb, Kp.refl _ _⟩
    have HP := Lib.hid hP
    subst h0
    clear hM hx hP hu'
    go_enter Try.func44, Try.ntmps44
    go_wp2
    go_end0
    exact HP.out
  · obtain ⟨i0, hi, hz0, hz1, hz2⟩ := info_parts Try.rowDkF
    obtain ⟨kf, hkf⟩ : ∃ k, k = (if x.sw then 58 else 57) := ⟨_, rfl⟩
    have hF : x.fv = .func (.func kf) #[] #[.pointer (some ⟨x.p, 0, none⟩)] := by rw [hkf]; rfl
    rw [hF]
    obtain ⟨w1, hw1⟩ : ∃ W, w.alloc (.cells #[.func (.func kf) #[] #[.pointer (some ⟨x.p, 0, none⟩)]] 76) = W := ⟨_, rfl⟩
    have hb1 : Below w.heap.size w w1 := by rw [← hw1]; exact b_alloc _ _
    have hs1 : w1.heap.size = w.heap.size + 1 := by rw [← hw1]; simp
    have hM1 := (hM.new hb1).mono (fq := fun b => fp b ∨ w.heap.size ≤ b) fun b hb _ => .inl hb
    have hx1 := (hx.keep (w' := w1) fun b _ hl => hb1.block b hl).mono (fq := fun b => fp b ∨ w.heap.size ≤ b) fun b hb _ => .inl hb
    have hf1 : Rds w1 (fun _ => True) (some ⟨w.heap.size, 0, none⟩) ([x].map Dk.C.fv) := by rw [← hw1, ← hF]; exact fn_rds w x _
    clear hF hkf
    obtain ⟨k0, k1, k2, k3, k4⟩ := pdk_cells hM1.blo
    obtain ⟨f0, f1, f2, f3, f4⟩ := pdk_fro hM1.blo
    have hro := hM1.rows.row
    obtain ⟨Aw, cw, ewv, _, _⟩ := own_form hro
    have hwr : IntKind.i64.wrap (n + u) = n + u := IntWalk.i64_in _ (by omega)
    have HX := Lib.hid hx1
    have HM := Lib.hid hM1
    have HU := Lib.hid hu'
    subst ewv
    obtain ⟨j0, j1, j2, j3, j4⟩ := pdk_cells hM.blo
    clear hM hx hx1 hM1 hu'
    go_enter Try.func44, Try.ntmps44
    go_wp2_with (at_builtin; refine wpList_app _ rfl _ _ 61 rfl 0 76 i0 .nilFunc 8 Try.underlying61 hi hz0 hz1 hz2 rfl _ _ _ rfl hro _ (some ⟨w.heap.size, 0, none⟩) 1 1 ([x].map Dk.C.fv) rfl rfl hf1 (fvs_one _) (by unfold maxLen; omega) (by omega) (Nat.zero_le _) ?_)
    intro v' w2 hr2 hg2 hv2
    obtain ⟨A2, c2, rfl, _, _⟩ := own_form hr2
    have hs2 := hg2.size
    obtain ⟨hB2, hP3, hK3⟩ := pin_push HM.out x HX.out hr2 hg2 (N := w.heap.size + 1) (by omega) hv2 (.inr (by omega))
    obtain ⟨w3, hw3⟩ : ∃ W, w2.setCell ⟨g, 2, none⟩ (.slice A2 (l.length + 1) c2) = W := ⟨_, rfl⟩
    obtain ⟨f0, f1, f2, f3, f4⟩ := pdk_fro hB2
    obtain ⟨j0, j1, j2, j3, j4⟩ := pdk_cells hB2
    rw [hw3] at hP3 hK3
    have hP4 := hP3.setN (n + u)
    have hK4 : Kp fp w (w3.setCell ⟨g, 3, none⟩ (.int .i64 (n + u))) := ((Kp.of hb1).trans (fq := fun b => fp b ∨ w.heap.size ≤ b) hK3 fun b hb => hb).trans (fq := fun b => fp b ∨ w.heap.size ≤ b) (kp_set (p := ⟨g, 3, none⟩) hP3.inn _) fun b hb => hb
    obtain ⟨w4, hw4⟩ : ∃ W, w3.setCell ⟨g, 3, none⟩ (.int .i64 (n + u)) = W := ⟨_, rfl⟩
    rw [hw4] at hP4 hK4
    have HP : Hid (WaitPost fp g Z lv L l n m x w (.returned (.tuple #[])) w4) := Lib.hid ⟨_, l ++ [x], rfl, by rw [Dk.Cs_app]; simp [Dk.Cs], fun h y hy => by
      rcases List.mem_append.1 hy with hy | hy
      · exact h y hy
      · have : y = x := by simpa using hy
        subst this
        intro e
        have := HU.out
        rw [e] at this
        exact h0 (by simpa using this), by rw [← HU.out]; exact hP4, hK4⟩
    obtain ⟨q0, q1, q2, q3, q4⟩ := pdk_cells hP3.blo
    obtain ⟨p0, p1, p2, p3, p4⟩ := pdk_fro hP3.blo
    clear hP4 hK4 hP3 hK3 hr2 hg2 hv2 hro hf1 hB2 k0 k1 k2 k3 k4
    go_wp2
    go_end0
    exact HP.out

set_option maxRecDepth 100000 in
set_option maxHeartbeats 4000000 in
theorem pnew_any (Z : Int) (w : World) : Calls Try.prog 9 #[.int .i64 Z] w (PNewPost Z w) := by
  by_cases h1 : Z < 1
  · have HP : Hid (∀ e w', e = .returned (.tuple #[.pointer none, .int .i64 2]) ∧ w = w' → PNewPost Z w e w') := Lib.hid (fun e w' h => by unfold PNewPost; rw [if_neg (fun h => by omega), ← h.2]; exact ⟨h.1, Below.refl _ _⟩)
    go_enter Try.func9, Try.ntmps9
    go_wp2
    go_ret2
    exact HP.out _ _ ⟨rfl, rfl⟩
  · by_cases h2 : 16384 < Z
    · have HP : Hid (∀ e w', e = .returned (.tuple #[.pointer none, .int .i64 2]) ∧ w = w' → PNewPost Z w e w') := Lib.hid (fun e w' h => by unfold PNewPost; rw [if_neg (fun h => by omega), ← h.2]; exact ⟨h.1, Below.refl _ _⟩)
      go_enter Try.func9, Try.ntmps9
      go_wp2
      go_ret2
      exact HP.out _ _ ⟨rfl, rfl⟩
    · obtain ⟨w1, hw1⟩ : ∃ W, w.alloc (.cells #[.int .i64 Z, .slice none 0 0, .slice none 0 0, .int .i64 0, .int .i64 0] 63) = W := ⟨_, rfl⟩
      have hb1 : Below w.heap.size w w1 := by rw [← hw1]; exact b_alloc _ _
      have hB : Blo w1 w.heap.size 63 #[.int .i64 Z, .slice none 0 0, .slice none 0 0, .int .i64 0, .int .i64 0] := by rw [← hw1]; exact Blo.made _ _ _
      have hfin : PD w1 (fun b => w.heap.size ≤ b) w.heap.size Z [] [] := ⟨_, .slice none 0 0, [], rfl, (fun x hx => by cases hx), hB, Nat.le_refl _, ByR.nil _ _, World.ownsRow_nil _ _ _ _, (fun b e => by cases e), (fun x hx => by cases hx)⟩
      have HP : Hid (PNewPost Z w (.returned (.tuple #[.pointer (some ⟨w.heap.size, 0, none⟩), .int .i64 0])) w1) := Lib.hid (by unfold PNewPost; rw [if_pos (by omega)]; exact ⟨_, rfl, hfin, hb1⟩)
      clear hB hfin hb1
      go_enter Try.func9, Try.ntmps9
      go_wp2
      go_ret2
      exact HP.out

section
variable {w : World} {fp : Nat → Prop} {g : Nat} {Z : Int} {L : List Int} {us : List Dk.U}
set_option maxRecDepth 100000
set_option maxHeartbeats 4000000
theorem proom_any (hM : PD w fp g Z L us) (hO : Dk.Ok Z L us) (hl : us.length ≤ 900000000) :
    Calls Try.prog 43 #[.pointer (some ⟨g, 0, none⟩)] w fun e w' => e = .returned (.int .i64 (Z - (Dk.aft L us).length)) ∧ Below w.heap.size w w' := by
  obtain ⟨lv, wv, l, e0, _, hM⟩ := hM
  clear e0
  obtain ⟨k0, k1, k2, k3, k4⟩ := pdk_cells hM.blo
  have hZ := hO.hi
  have hL := hO.last
  have hL0 := hO.lo
  obtain ⟨N, hN⟩ : ∃ N, N = (Dk.aft L us).length := ⟨_, rfl⟩
  rw [← hN] at k4 hL ⊢
  have hwr : IntKind.i64.wrap (Z - (N : Int)) = Z - (N : Int) := IntWalk.i64_in _ (by omega)
  clear hN hM
  go_enter Try.func43, Try.ntmps43
  go_wp2_with fail
  go_quiet (fail)
  go_wp2
  go_ret
  exact ⟨rfl, below_drewN (Below.refl _ _) _⟩
theorem pread_any (hM : PD w fp g Z L us) (hO : Dk.Ok Z L us) (hl : us.length ≤ 900000000) :
    Calls Try.prog 27 #[.pointer (some ⟨g, 0, none⟩)] w (NewB (Dk.aft L us) w) := by
  obtain ⟨lv, wv, l, e, h0, hM⟩ := hM
  have hll := Dk.Cs_len h0
  rw [← e] at hll
  have hA := pafter_any hM us.length us.length (by omega) (by omega) (by omega) (by rw [← e]; intro k; have := hO.all k; have := hO.hi; omega)
  rw [← e, List.take_length] at hA
  obtain ⟨k0, k1, k2, k3, k4⟩ := pdk_cells hM.blo
  have HA := Lib.hid hA
  clear hA hM e
  go_enter Try.func27, Try.ntmps27
  go_wp2_with fail
  refine HA.out.mono ?_
  rintro e w1 ⟨A, c, rfl, h1, h2⟩
  go_wp2
  go_ret
  exact ⟨A, c, rfl, h1, h2⟩
theorem pwait_any (hM : PD w fp g Z L us) (hO : Dk.Ok Z L us) (hl : us.length ≤ 900000000) :
    Calls Try.prog 30 #[.pointer (some ⟨g, 0, none⟩)] w fun e w' => e = .returned (.int .i64 (us.length : Int)) ∧ Below w.heap.size w w' := by
  obtain ⟨lv, wv, l, e0, _, hM⟩ := hM
  obtain ⟨k0, k1, k2, k3, k4⟩ := pdk_cells hM.blo
  clear hM e0
  go_enter Try.func30, Try.ntmps30
  go_wp2
  go_ret
  exact ⟨rfl, Below.refl _ _⟩
theorem pcrash_any (hM : PD w fp g Z L us) (hO : Dk.Ok Z L us) (hl : us.length ≤ 900000000) (keep : Int) (hk : keep < 9223372036854775808 := by omega) :
    Calls Try.prog 19 #[.pointer (some ⟨g, 0, none⟩), .int .i64 keep] w (PskPost (.tuple #[]) Z (Dk.aft L (us.take (Dk.cut keep us.length))) [] fp g w) := by
  obtain ⟨lv, wv, l, e, h0, hM⟩ := hM
  have hll := Dk.Cs_len h0
  rw [← e] at hll
  obtain ⟨K, hK⟩ : ∃ K : Nat, max keep 0 = (K : Int) := ⟨(max keep 0).toNat, by omega⟩
  have hA := pafter_any hM keep K hK hk (by omega) (by rw [← e]; intro k; have := hO.all k; have := hO.hi; omega)
  have hc : us.take (Dk.cut keep us.length) = us.take K := by
    have e : Dk.cut keep us.length = min K us.length := by unfold Dk.cut; omega
    rw [e]
    rcases Nat.le_total K us.length with h | h
    · rw [Nat.min_eq_left h]
    · rw [Nat.min_eq_right h, List.take_of_length_le h, List.take_length]
  rw [hc]
  rw [← e] at hA
  obtain ⟨k0, k1, k2, k3, k4⟩ := pdk_cells hM.blo
  obtain ⟨f0, f1, f2, f3, f4⟩ := pdk_fro hM.blo
  obtain ⟨R, hR⟩ : ∃ R, R = Dk.aft L (us.take K) := ⟨_, rfl⟩
  rw [← hR] at hA ⊢
  have HA := Lib.hid hA
  have HM := Lib.hid hM
  clear hR e hA hc hK hM hll
  go_enter Try.func19, Try.ntmps19
  go_wp2_with fail
  refine HA.out.mono ?_
  rintro e w1 ⟨A1, c1, rfl, h1, h2⟩
  have hM1 := HM.out.new h2
  obtain ⟨k0, k1, k2, k3, k4⟩ := pdk_cells hM1.blo
  obtain ⟨f0, f1, f2, f3, f4⟩ := pdk_fro hM1.blo
  have hR1 : PIn w1 (fun b => fp b ∨ w.heap.size ≤ b) (.slice A1 R.length c1) R (.slice none 0 0) [] := ⟨h1.mono fun b hb _ => .inr hb, World.ownsRow_nil _ _ _ _, (fun b e => by cases e), (fun x hx => by cases hx)⟩
  have hB2 := hM1.blo.put 1 (.slice A1 R.length c1)
  have hR2 := hR1.set hM1.blo 1 (.slice A1 R.length c1)
  have hK2 : Kp fp w (w1.setCell ⟨g, 1, none⟩ (.slice A1 R.length c1)) := (Kp.of h2).trans (fq := fp) (kp_set (p := ⟨g, 1, none⟩) hM1.inn _) fun b => .inl
  obtain ⟨w2, hw2⟩ : ∃ W, w1.setCell ⟨g, 1, none⟩ (.slice A1 R.length c1) = W := ⟨_, rfl⟩
  rw [hw2] at hB2 hR2 hK2
  have hB3 := hB2.put 2 (.slice none 0 0)
  have hR3 := hR2.set hB2 2 (.slice none 0 0)
  have hK3 := hK2.trans (fq := fp) (kp_set (p := ⟨g, 2, none⟩) hM1.inn (.slice none 0 0)) fun b => .inl
  obtain ⟨w3, hw3⟩ : ∃ W, w2.setCell ⟨g, 2, none⟩ (.slice none 0 0) = W := ⟨_, rfl⟩
  rw [hw3] at hB3 hR3 hK3
  have hB4 := hB3.put 3 (.int .i64 0)
  have hR4 := hR3.set hB3 3 (.int .i64 0)
  have hK4 := hK3.trans (fq := fp) (kp_set (p := ⟨g, 3, none⟩) hM1.inn (.int .i64 0)) fun b => .inl
  obtain ⟨w4, hw4⟩ : ∃ W, w3.setCell ⟨g, 3, none⟩ (.int .i64 0) = W := ⟨_, rfl⟩
  rw [hw4] at hB4 hR4 hK4
  have hB5 := hB4.put 4 (.int .i64 (R.length : Int))
  have hR5 := hR4.set hB4 4 (.int .i64 (R.length : Int))
  have hK5 := hK4.trans (fq := fp) (kp_set (p := ⟨g, 4, none⟩) hM1.inn (.int .i64 (R.length : Int))) fun b => .inl
  obtain ⟨w5, hw5⟩ : ∃ W, w4.setCell ⟨g, 4, none⟩ (.int .i64 (R.length : Int)) = W := ⟨_, rfl⟩
  rw [hw5] at hB5 hR5 hK5
  have HP : Hid (PskPost (.tuple #[]) Z R [] fp g w (.returned (.tuple #[])) w5) := Lib.hid ⟨rfl, ⟨_, _, [], rfl, (fun x hx => by cases hx), by simpa [Dk.aft] using hB5, .inl hM1.inn, hR5⟩, hK5⟩
  obtain ⟨a0, a1, a2, a3, a4⟩ := pdk_fro hB2
  obtain ⟨b0, b1, b2, b3, b4⟩ := pdk_fro hB3
  obtain ⟨d0, d1, d2, d3, d4⟩ := pdk_fro hB4
  have q1 : w2.cell? ⟨g, 1, none⟩ = some (.slice A1 R.length c1) := by simpa using hB2.cell 1
  have q2 := hB2.cell 2
  have q3 := hB3.cell 3
  have q4 := hB4.cell 4
  simp at q2 q3 q4
  clear hB2 hB3 hB4 hB5 hR1 hR2 hR3 hR4 hR5 hK2 hK3 hK4 hK5 hM1 h1 h2
  go_wp2
  go_end0
  exact HP.out
theorem psync_any (hM : PD w fp g Z L us) (hO : Dk.Ok Z L us) (hl : us.length ≤ 900000000) :
    Calls Try.prog 31 #[.pointer (some ⟨g, 0, none⟩)] w (PskPost (.int .i64 0) Z (Dk.aft L us) [] fp g w) := by
  have hA := pcrash_any hM hO hl us.length
  have e : Dk.cut us.length us.length = us.length := by unfold Dk.cut; omega
  rw [e, List.take_length] at hA
  obtain ⟨lv, wv, l, e0, _, hM⟩ := hM
  obtain ⟨k0, k1, k2, k3, k4⟩ := pdk_cells hM.blo
  have HA := Lib.hid hA
  clear hA e hM hO e0
  go_enter Try.func31, Try.ntmps31
  go_wp2_with fail
  refine HA.out.mono ?_
  rintro e w1 ⟨rfl, h1, h2⟩
  go_wp2
  go_ret
  exact ⟨rfl, h1, h2⟩
theorem psync_nil (w : World) : Calls Try.prog 31 #[.pointer none] w fun e w' => e = .returned (.int .i64 1) ∧ Below w.heap.size w w' := by
  go_enter Try.func31, Try.ntmps31
  go_wp2
  go_ret
  exact ⟨rfl, Below.refl _ _⟩
theorem Dk.C.us_app (xs : List Int) (p : Nat) (v : Value) : Dk.C.us ⟨false, xs, p, v⟩ = xs.map .b := rfl
theorem pappend_any (hM : PD w fp g Z L us) (hO : Dk.Ok Z L us) (hl : us.length ≤ 900000000)
    (S : Nat → Prop) (A : Option Addr) (n c : Nat) (xs : List Int) (hn : xs.length = n) (hr : Rds w S A (u8s xs)) (hS : ∀ b, S b → b < w.heap.size → ¬ fp b) (hn47 : n ≤ 140737488355328) :
    Calls Try.prog 17 #[.pointer (some ⟨g, 0, none⟩), .slice A n c] w (PskPost (.int .i64 (Dk.apE Z L us xs)) Z L (Dk.apU Z L us xs) fp g w) := by
  have hZ := hO.hi
  have hL := hO.last
  have hN0 := hO.lo
  have HR := Lib.hid (proom_any hM hO hl)
  obtain ⟨N, hN⟩ : ∃ N, N = (Dk.aft L us).length := ⟨_, rfl⟩
  rw [← hN] at HR hL
  by_cases hfull : Z < (N : Int) + n
  · have HP : Hid (∀ w', Below w.heap.size w w' → PskPost (.int .i64 (Dk.apE Z L us xs)) Z L (Dk.apU Z L us xs) fp g w (.returned (.int .i64 7)) w') := Lib.hid fun w' hb => by
      unfold Dk.apE Dk.apU
      rw [if_pos (by omega), if_pos (by omega)]
      exact ⟨rfl, (hM.keep fun b _ hl => hb.block b hl).mono fun b hb _ => .inl hb, Kp.of hb⟩
    clear hM hr hN hO hn hl
    go_enter Try.func17, Try.ntmps17
    go_wp2_with fail
    refine HR.out.mono ?_
    rintro e w1 ⟨rfl, hb⟩
    have hP := Lib.hid (HP.out w1 hb)
    go_wp2
    go_ret
    exact hP.out
  · have HE : Hid (Dk.apE Z L us xs = 0 ∧ Dk.apU Z L us xs = us ++ xs.map .b) := Lib.hid (by unfold Dk.apE Dk.apU; rw [if_neg (by omega), if_neg (by omega)]; exact ⟨rfl, rfl⟩)
    have hn14 : n ≤ 16384 := by omega
    have HNn := Lib.hid hN
    have HM := Lib.hid hM
    have Hn := Lib.hid hn
    have HRd := Lib.hid hr
    clear hM hr hN hO hn
    go_enter Try.func17, Try.ntmps17
    go_wp2_with fail
    refine HR.out.mono ?_
    rintro e w1 ⟨rfl, hb⟩
    go_wp2_with fail
    refine (pappends_any w1 S A n c xs Hn.out (HRd.out.new hb) hn47).mono ?_
    rintro e w2 ⟨p, v, rfl, hX, hb2⟩
    have hb02 := below_new hb hb2
    have hM2 := (HM.out.keep (w' := w2) fun b _ hl => hb02.block b hl).mono (fq := fun b => fp b ∨ w.heap.size ≤ b) fun b hb _ => .inl hb
    have hbs := hb.size
    have hX2 := hX.mono (fq := fun b => fp b ∨ w.heap.size ≤ b) fun b hb _ => .inr (by omega)
    obtain ⟨lv, wv, l, e0, h0, hD⟩ := hM2
    have hll := Dk.Cs_len h0
    rw [← e0] at hll
    have hul : (Dk.C.us ⟨false, xs, p, v⟩).length = n := by rw [Dk.C.us_app, List.length_map]; exact Hn.out
    have HA := Lib.hid (pwaits_any hD ⟨false, xs, p, v⟩ hX2 (by omega) (by omega) (by omega) (by omega) (n : Int) (by omega))
    have HE0 := Lib.hid e0
    have HB0 := Lib.hid h0
    have HUL := Lib.hid hul
    clear hX hX2 hD e0 h0 hul
    rw [show Dk.C.fv ⟨false, xs, p, v⟩ = .func (.func 57) #[] #[.pointer (some ⟨p, 0, none⟩)] from rfl] at HA ⊢
    go_wp2_with fail
    refine HA.out.mono ?_
    rintro e w3 ⟨wv', l', rfl, hc, hn', hD3, hK3⟩
    have hc' : Dk.Cs l' = us ++ xs.map .b := by rw [hc, ← HE0.out]; rfl
    have hwr : IntKind.i64.wrap ((N : Int) + n) = (N : Int) + n := IntWalk.i64_in _ (by omega)
    rw [← HNn.out] at hD3
    obtain ⟨k0, k1, k2, k3, k4⟩ := pdk_cells hD3.blo
    obtain ⟨f0, f1, f2, f3, f4⟩ := pdk_fro hD3.blo
    have hD4 := hD3.setM ((N : Int) + n)
    have hs2 := hb02.size
    have hgi : fp g ∨ w.heap.size ≤ g := by
      rcases hD3.inn with h | h
      · exact h
      · exact .inr (by omega)
    have hK4 : Kp fp w (w3.setCell ⟨g, 4, none⟩ (.int .i64 ((N : Int) + n))) := ((Kp.of hb02).trans (fq := fun b => fp b ∨ w.heap.size ≤ b) hK3 fun b hb => hb).trans (fq := fun b => fp b ∨ w.heap.size ≤ b) (kp_set (p := ⟨g, 4, none⟩) hgi _) fun b hb => hb
    obtain ⟨w4, hw4⟩ : ∃ W, w3.setCell ⟨g, 4, none⟩ (.int .i64 ((N : Int) + n)) = W := ⟨_, rfl⟩
    rw [hw4] at hD4 hK4
    have HP : Hid (PskPost (.int .i64 (Dk.apE Z L us xs)) Z L (Dk.apU Z L us xs) fp g w (.returned (.int .i64 0)) w4) := Lib.hid (by
      rw [HE.out.1, HE.out.2]
      refine ⟨rfl, ⟨lv, wv', l', hc'.symm, hn' HB0.out, ?_⟩, hK4⟩
      have e1 : ((us ++ xs.map Dk.U.b).length : Int) = (us.length : Int) + (Dk.C.us ⟨false, xs, p, v⟩).length := by rw [HUL.out, List.length_append, List.length_map, Hn.out]; omega
      have e2 : ((Dk.aft L (us ++ xs.map Dk.U.b)).length : Int) = (N : Int) + n := by rw [Dk.aft_app, Dk.aft_bytes, List.length_append, ← HNn.out, Hn.out]; omega
      rw [e1, e2]
      exact hD4.mono fun b hb _ => by
        rcases hb with hb | hb
        · exact hb
        · exact .inr (by omega))
    clear hD4 hK4 hD3 hK3 hc hc' hn'
    go_wp2
    go_ret
    exact HP.out
theorem pswap_any (hM : PD w fp g Z L us) (hO : Dk.Ok Z L us) (hl : us.length ≤ 900000000)
    (S : Nat → Prop) (A : Option Addr) (n c : Nat) (xs : List Int) (hn : xs.length = n) (hr : Rds w S A (u8s xs)) (hS : ∀ b, S b → b < w.heap.size → ¬ fp b) (hn47 : n ≤ 140737488355328) :
    Calls Try.prog 21 #[.pointer (some ⟨g, 0, none⟩), .slice A n c] w (PskPost (.int .i64 (Dk.swE Z xs)) Z L (Dk.swU Z us xs) fp g w) := by
  have hZ := hO.hi
  have hL := hO.last
  have hN0 := hO.lo
  have hcell : w.cell? ⟨g, 0, none⟩ = some (.int .i64 Z) := by
    obtain ⟨lv, wv, l, _, _, hM⟩ := hM
    exact (pdk_cells hM.blo).1
  by_cases hfull : Z < (n : Int)
  · have HP : Hid (PskPost (.int .i64 (Dk.swE Z xs)) Z L (Dk.swU Z us xs) fp g w (.returned (.int .i64 7)) w) := Lib.hid (by
      unfold Dk.swE Dk.swU
      rw [if_pos (by omega), if_pos (by omega)]
      exact ⟨rfl, hM.mono fun b hb _ => .inl hb, Kp.refl _ _⟩)
    clear hM hr hO hn hl hL
    go_enter Try.func21, Try.ntmps21
    go_wp2
    go_ret
    exact HP.out
  · have HE : Hid (Dk.swE Z xs = 0 ∧ Dk.swU Z us xs = us ++ [.s xs]) := Lib.hid (by unfold Dk.swE Dk.swU; rw [if_neg (by omega), if_neg (by omega)]; exact ⟨rfl, rfl⟩)
    have hn14 : n ≤ 16384 := by omega
    have HM := Lib.hid hM
    have Hn := Lib.hid hn
    have HRd := Lib.hid hr
    clear hM hr hO hn hL
    go_enter Try.func21, Try.ntmps21
    go_wp2_with fail
    refine (pswaps_any w S A n c xs Hn.out HRd.out hn47).mono ?_
    rintro e w2 ⟨p, v, rfl, hX, hb2⟩
    have hM2 := (HM.out.keep (w' := w2) fun b _ hl => hb2.block b hl).mono (fq := fun b => fp b ∨ w.heap.size ≤ b) fun b hb _ => .inl hb
    have hX2 := hX.mono (fq := fun b => fp b ∨ w.heap.size ≤ b) fun b hb _ => .inr (by omega)
    obtain ⟨lv, wv, l, e0, h0, hD⟩ := hM2
    have hll := Dk.Cs_len h0
    rw [← e0] at hll
    have hul : (Dk.C.us ⟨true, xs, p, v⟩).length = 1 := rfl
    have HA := Lib.hid (pwaits_any hD ⟨true, xs, p, v⟩ hX2 (by omega) (by omega) (by omega) (by omega) 1 (by omega))
    have HE0 := Lib.hid e0
    have HB0 := Lib.hid h0
    have HUL := Lib.hid hul
    clear hX hX2 hD e0 h0 hul
    rw [show Dk.C.fv ⟨true, xs, p, v⟩ = .func (.func 58) #[] #[.pointer (some ⟨p, 0, none⟩)] from rfl] at HA ⊢
    go_wp2_with fail
    refine HA.out.mono ?_
    rintro e w3 ⟨wv', l', rfl, hc, hn', hD3, hK3⟩
    have hc' : Dk.Cs l' = us ++ [.s xs] := by rw [hc, ← HE0.out]; rfl
    obtain ⟨k0, k1, k2, k3, k4⟩ := pdk_cells hD3.blo
    obtain ⟨f0, f1, f2, f3, f4⟩ := pdk_fro hD3.blo
    have hD4 := hD3.setM (n : Int)
    have hs2 := hb2.size
    have hgi : fp g ∨ w.heap.size ≤ g := by
      rcases hD3.inn with h | h
      · exact h
      · exact .inr (by omega)
    have hK4 : Kp fp w (w3.setCell ⟨g, 4, none⟩ (.int .i64 (n : Int))) := ((Kp.of hb2).trans (fq := fun b => fp b ∨ w.heap.size ≤ b) hK3 fun b hb => hb).trans (fq := fun b => fp b ∨ w.heap.size ≤ b) (kp_set (p := ⟨g, 4, none⟩) hgi _) fun b hb => hb
    obtain ⟨w4, hw4⟩ : ∃ W, w3.setCell ⟨g, 4, none⟩ (.int .i64 (n : Int)) = W := ⟨_, rfl⟩
    rw [hw4] at hD4 hK4
    have HP : Hid (PskPost (.int .i64 (Dk.swE Z xs)) Z L (Dk.swU Z us xs) fp g w (.returned (.int .i64 0)) w4) := Lib.hid (by
      rw [HE.out.1, HE.out.2]
      refine ⟨rfl, ⟨lv, wv', l', hc'.symm, hn' HB0.out, ?_⟩, hK4⟩
      have e1 : ((us ++ [Dk.U.s xs]).length : Int) = (us.length : Int) + (Dk.C.us ⟨true, xs, p, v⟩).length := by rw [HUL.out, List.length_append]; rfl
      have e2 : ((Dk.aft L (us ++ [Dk.U.s xs])).length : Int) = (n : Int) := by rw [Dk.aft_app, ← Hn.out]; rfl
      rw [e1, e2]
      exact hD4.mono fun b hb _ => by
        rcases hb with hb | hb
        · exact hb
        · exact .inr (by omega))
    clear hD4 hK4 hD3 hK3 hc hc' hn'
    go_wp2
    go_ret
    exact HP.out
end
end Go.Proofs.Ytfllebfegngdhaa
