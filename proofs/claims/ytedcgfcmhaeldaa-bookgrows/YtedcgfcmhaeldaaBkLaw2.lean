/- Layer 8: books that are fed, in a law's world. -/
import Derived.Test.YtedcgfcmhaeldaaBkKnows
import Derived.Test.YtedcgfcmhaeldaaBkAlive
import Derived.Test.YtedcgfcmhaeldaaEvArgs2
import Derived.Test.YtedcgfcmhaeldaaEvGreat
namespace Go.Proofs.Ytedcgfcmhaeldaa
set_option linter.unusedVariables false
set_option linter.unusedSimpArgs false
open Go.ChangeShapes Go.WideShapes Go.ChangeAt Go.RowKit

theorem hold_len {b : B.Bk} (h : B.Ok b) : b.hold.length ≤ 768 := by
  have h1 := pick_lst h.srt (fun x hx => h.may _ (h.seen x hx)) (fun _ => true)
  have h2 : b.hold.filter (fun x => (fun _ => true) (B.dotOf x)) = b.hold := List.filter_eq_self.2 fun _ _ => rfl
  rw [h2] at h1
  rw [← h1]
  exact Nat.le_trans (fm_len _ _) (D.lst_len _)
theorem run_snoc (b : B.Bk) (l : List E.Ev) (e : E.Ev) : B.run b (l ++ [e]) = B.add (B.run b l) e := by unfold B.run; rw [List.foldl_append]; rfl
theorem plain_take {l : List EvV} {i : Nat} (h : i < l.length) : plain (l.take (i + 1)) = plain (l.take i) ++ [(l[i].F, l[i].M)] := by
  rw [List.take_succ_eq_append_getElem h, plain_app]; rfl
theorem plain_mem {l : List EvV} {i : Nat} (h : i < l.length) : (l[i].F, l[i].M) ∈ plain l := List.mem_map.2 ⟨l[i], List.getElem_mem h, rfl⟩
theorem bulk_max {l : List EvV} (h : bulk l ≤ 3000) {e : EvV} (he : e ∈ l) : e.M.length ≤ 3000 := by have := bulk_mem he; omega
theorem bulk_n {l : List EvV} (h : bulk l ≤ 3000) : l.length ≤ 3000 := by have := bulk_len l; omega
theorem len_max {n : Nat} (h : n ≤ 3000) : n ≤ maxLen := by unfold maxLen; omega
theorem news_has {a b : B.Bk} (ha : B.Ok a) : B.news b (D.has (D.cU a.saw) (D.cM a.saw)) = B.news b a.saw := by
  unfold B.news
  refine List.filter_congr fun x _ => ?_
  rw [D.cl_has]
  cases h : a.saw (B.dotOf x) with
  | false => simp
  | true => rw [ha.may _ h]; rfl
theorem newer_all {a b : B.Bk} (ha : B.Ok a) (hb : B.Ok b) : B.newer b (D.has (D.cU a.saw) (D.cM a.saw)) 1000 = B.news b a.saw := by
  unfold B.newer
  rw [news_has ha]
  refine List.take_of_length_le ?_
  have h1 : (B.news b a.saw).length ≤ b.hold.length := List.length_filter_le _ _
  have h2 := hold_len hb
  have : (1000 : Int).toNat = 1000 := rfl
  omega
theorem ERds.kpt {w w' : World} {S S2 : Nat → Prop} {A : Option Addr} {l : List EvV} {g : Nat} {m : Option Nat} {b : B.Bk} (h : ERds w S2 A l) (k : PB w S g m b) (hK : Kpt w w' g m) (hS : ∀ b, S2 b → b ≠ g) : ERds w' S2 A l := ⟨k.rds h.1 hK hS, fun e he => k.rds (h.2 e he) hK hS⟩
theorem run_take {b : B.Bk} {l : List EvV} {i : Nat} (h : i < l.length) {F : Nat → Int} {M : List D.Dot} {A : Option Addr} {c : Nat} (hx : ⟨F, M, A, c⟩ = l[i]) : B.add (B.run b (plain (l.take i))) (F, M) = B.run b (plain (l.take (i + 1))) := by
  rw [plain_take h, run_snoc, ← hx]
/-- A row of events that was handed out. -/
structure Out (w0 W : World) (g1 g2 : Nat) (A : Option Addr) (l : List EvV) (X : List E.Ev) : Prop where
  er : ERds W (fun b => b ≠ g1 ∧ b ≠ g2) A l
  pl : plain l = X
theorem Out.new {w0 W W' : World} {g1 g2 : Nat} {A : Option Addr} {l : List EvV} {X : List E.Ev} (h : Out w0 W g1 g2 A l X) (hb : Below W.heap.size W W') : Out w0 W' g1 g2 A l X := ⟨h.er.new hb, h.pl⟩
end Go.Proofs.Ytedcgfcmhaeldaa
