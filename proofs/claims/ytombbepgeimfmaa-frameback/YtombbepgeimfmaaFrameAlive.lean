/- Layer 4: the document's examples. -/
import Derived.Test.YtombbepgeimfmaaFramePut
namespace Go.Proofs.Ytombbepgeimfmaa
open Go.ChangeShapes Go.WideShapes Go.ChangeAt Go.RowKit

theorem F.put_nil : ∃ a b c d : Int, F.put [] = [1, 0, a, b, c, d] ∧ F.get [1, 0, a, b, c] = (3, 0, 0) := by
  have e : F.ahead [] = [1, 0] := by unfold F.ahead; simp [V.enc_small]
  refine ⟨_, _, _, _, by unfold F.put; rw [e]; rfl, ?_⟩
  have e2 : V.enc (([] : List Int).length : Int) = [0] := by simp [V.enc_small]
  obtain ⟨h0, h1, h2, h3, h4⟩ := F.head_at (b := []) (r := [_, _, _]) (by simp) [1, 0, _, _, _] (by rw [e2]; rfl)
  rw [e2] at h4
  exact F.get_short h0 h1 (by rw [h2]) (by rw [h2]; simp) (by rw [h4]; simp)

set_option maxHeartbeats 1000000 in
theorem frame_alive (w : World) : Calls Try.prog 7 #[] w fun e w' => e = .returned (.bool true) ∧ Below w.heap.size w w' := by
  obtain ⟨i0, hi, hz0, hz1, hz2⟩ := info_parts Try.rowU8
  obtain ⟨x2, x3, x4, x5, hput, hget5⟩ := F.put_nil
  have hbyt : Byt [1, 0, x2, x3, x4, x5] := by rw [← hput]; exact F.put_byt (fun _ h => by simp at h) (by simp)
  obtain ⟨hg9, _, hr9⟩ := F.get_put (b := []) [9] (by simp)
  rw [hput] at hg9 hr9
  have hre9 : F.rest ([1, 0, x2, x3, x4, x5] ++ [9]) = [9] := by unfold F.rest; rw [hg9]; exact hr9
  have H5 := Lib.hid hget5
  have H9 := Lib.hid hg9
  have HR := Lib.hid hre9
  have HP := Lib.hid hput
  clear hget5 hg9 hr9 hre9 hput
  go_enter Try.func7, Try.ntmps7
  go_wp2_with fail
  refine (fput_yes (fun _ => True) none 0 0 [] w rfl Rds.nil (by simp) (fun _ h => by simp at h)).mono ?_
  rintro e w1 ⟨v, rfl, ⟨A1, c1, rfl, hown1⟩, hB1⟩
  rw [HP.out] at hown1 ⊢
  simp only [List.length_cons, List.length_nil, Nat.zero_add, Nat.reduceAdd] at hown1 ⊢
  obtain ⟨g, c, hv⟩ : ∃ g c, (Value.slice A1 6 c1) = .slice (some ⟨g, 0, none⟩) 6 c := by
    rcases hown1.2 with ⟨_, h0⟩ | ⟨g, cap, _, hv, _⟩
    · omega
    · exact ⟨g, cap, hv⟩
  injection hv with e1 _ e3
  subst e1; subst e3
  have hrd := own_rds hown1
  have c0 : w1.cell? ⟨g, 0, none⟩ = some (.int .u8 1) := by
    have := hrd.addr 0 _ rfl
    simpa [M.addMk] using this
  have k1 : w1.cell? ⟨g, 1, none⟩ = some (.int .u8 0) := by
    have := hrd.addr 1 _ rfl
    simpa [M.addMk] using this
  obtain ⟨_, _, hcc, hc6, _⟩ := own_form hown1
  injection hcc with hcA _ hcc
  subst hcA; subst hcc
  clear hown1
  go_wp2_with fail
  refine (get_any _ _ 5 c1 [1, 0, x2, x3, x4] w1 rfl (hrd.takeI 5) (by simp; omega) (by simp) (hbyt.take 5)).mono ?_
  rintro e w2 ⟨⟨h, _⟩ | ⟨h, rfl⟩, hB2⟩
  · rw [H5.out] at h; simp at h
  rw [H5.out]
  have hrd2 := hrd.new hB2
  have hB12 := below_new hB1 hB2
  have hs1 := hB12.size
  clear h hrd hB1 hB2 c0 k1
  have hownL : (w2.alloc (.cells #[] 5)).ownsRow w2.heap.size 5 1 (.slice (some ⟨w2.heap.size, 0, none⟩) 0 0) 0 [] := World.ownsRow_lit w2 #[] 0 (Nat.le_refl _) (by unfold maxLen; omega) rfl
  have hrd3 := hrd2.alloc (.cells #[] 5)
  have hB3 := hB12.alloc hs1 (.cells #[] 5)
  go_wp2_with (at_builtin; refine wpList_app _ rfl _ _ 22 rfl w2.heap.size 5 i0 (.int .u8 0) 1 Try.underlying22 hi hz0 hz1 hz2 rfl _ _ _ rfl hownL _ _ 6 _ (u8s [1, 0, x2, x3, x4, x5]) rfl rfl hrd3 (one_ints _ _) (by unfold maxLen; omega) (by omega) (by simp) ?_)
  intro v4 w4 hown4 hg4 _
  have hB4 : Below w.heap.size w w4 := hB3.grown hg4 (by simp; omega) fun k hk => by simp [Value.ownBlock] at hk; omega
  have hs4 := hg4.size
  simp only [World.size_alloc] at hs4
  have hown5 := hown4.alloc (.cells (u8s [9]).toArray 5)
  have hB5 := hB4.alloc hB4.size (.cells (u8s [9]).toArray 5)
  have hs5 := hB5.size
  clear hg4 hownL hrd3 hB3 hB12 hrd2
  go_wp2_with (at_builtin; refine wpList_app _ rfl _ _ 22 rfl w2.heap.size 5 i0 (.int .u8 0) 1 Try.underlying22 hi hz0 hz1 hz2 rfl _ _ _ rfl hown5 (fun _ => True) _ 1 1 (u8s [9]) rfl rfl (lit_rds w4 [9] .u8 5) (one_ints _ _) (by unfold maxLen; omega) (by omega) (by simp; omega) ?_)
  intro v6 w6 hown6 hg6 _
  have hB6 : Below w.heap.size w w6 := hB5.grown hg6 hs5 fun k hk => by have := (hown5.lt k hk).1; omega
  obtain ⟨A6, c6, rfl, hc7, _⟩ := own_form hown6
  have hrd6 : Rds w6 _ A6 (u8s ([1, 0, x2, x3, x4, x5] ++ [9])) := own_rds hown6
  clear hown4 hown5 hg6 hown6 hB4 hB5
  go_wp2_with fail
  refine (get_any _ A6 _ c6 ([1, 0, x2, x3, x4, x5] ++ [9]) w6 rfl hrd6 (by simpa using hc7) (by simp) (hbyt.app (by unfold Byt; decide))).mono ?_
  rintro e w7 ⟨⟨_, v1, v2, rfl, _, h2⟩ | ⟨h, _⟩, hB7⟩
  rotate_left
  · rw [H9.out] at h; simp at h
  rw [HR.out] at h2
  obtain ⟨A8, c8, rfl, _⟩ := h2
  have hB8 := below_new hB6 hB7
  go_wp2
  go_ret
  exact ⟨rfl, hB8⟩
end Go.Proofs.Ytombbepgeimfmaa
