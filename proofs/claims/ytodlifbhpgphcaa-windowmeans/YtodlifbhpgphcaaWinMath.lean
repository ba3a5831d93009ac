/- Layer 10 as plain mathematics: a node's newest samples, their mean, a load. -/
import Derived.Test.YtodlifbhpgphcaaPolIso
import Derived.Test.YtodlifbhpgphcaaSatMath
namespace Go.Proofs.Ytodlifbhpgphcaa
set_option linter.unusedVariables false
set_option linter.unusedSimpArgs false
open Go.ChangeShapes Go.WideShapes Go.ChangeAt Go.RowKit

/-- a stands ahead of b: its number is greater. -/
def ltQ (a b : EvV) : Bool := decide (b.F 1 < a.F 1)
def ltQP (a b : E.Ev) : Bool := decide (b.1 1 < a.1 1)
theorem ordQ : P.Ord ltQ := ⟨fun a => by simp [ltQ], fun a b h => by simp [ltQ] at *; omega, fun a b c h k => by simp [ltQ] at *; omega⟩
/-- A sample of that workload, of that node. -/
def isSmp (k nd : Int) (e : EvV) : Bool := decide (e.F 3 = 1 ∧ e.F 4 = k ∧ e.F 0 = nd)
def smps (k nd : Int) (l : List EvV) : List EvV := l.filter (isSmp k nd)
theorem smps_le (k nd : Int) (l : List EvV) : (smps k nd l).length ≤ l.length := List.length_filter_le _ _
theorem smps_take {k nd : Int} {l : List EvV} {i : Nat} (h : i < l.length) : smps k nd (l.take (i + 1)) = smps k nd (l.take i) ++ if isSmp k nd l[i] = true then [l[i]] else [] := by
  unfold smps
  rw [List.take_succ_eq_append_getElem h, List.filter_append]
  by_cases hs : isSmp k nd l[i] = true <;> simp [hs]
theorem smps_yes {k nd : Int} {l : List EvV} {i : Nat} (h : i < l.length) (hs : l[i].F 3 = 1 ∧ l[i].F 4 = k ∧ l[i].F 0 = nd) : smps k nd (l.take (i + 1)) = smps k nd (l.take i) ++ [l[i]] := by
  rw [smps_take h, if_pos (by simpa [isSmp] using hs)]
theorem smps_no {k nd : Int} {l : List EvV} {i : Nat} (h : i < l.length) (hs : ¬ (l[i].F 3 = 1 ∧ l[i].F 4 = k ∧ l[i].F 0 = nd)) : smps k nd (l.take (i + 1)) = smps k nd (l.take i) := by
  rw [smps_take h, if_neg (by simpa [isSmp] using hs), List.append_nil]
theorem mem_smps {k nd : Int} {l : List EvV} {e : EvV} : e ∈ smps k nd l ↔ e ∈ l ∧ e.F 3 = 1 ∧ e.F 4 = k ∧ e.F 0 = nd := by
  unfold smps
  rw [List.mem_filter]
  simp [isSmp]
theorem plain_smps (k nd : Int) (l : List EvV) : plain (smps k nd l) = (plain l).filter (fun e => decide (e.1 3 = 1 ∧ e.1 4 = k ∧ e.1 0 = nd)) := by
  unfold smps plain
  rw [List.filter_map]
  congr 1
theorem plain_isortQ (l : List EvV) : P.isort ltQP (plain l) = plain (P.isort ltQ l) := isort_map (fun e : EvV => (e.F, e.M)) (lt := ltQ) (lt' := ltQP) (fun a b => rfl) l
theorem plain_insQ (l : List EvV) (e : EvV) : P.ins ltQP (plain l) (e.F, e.M) = plain (P.ins ltQ l e) := ins_map (fun e : EvV => (e.F, e.M)) (lt := ltQ) (lt' := ltQP) (fun a b => rfl) l e
/-- One more sample is put in: whichever row the ones so far lie in. -/
theorem plain_putQ {m s : List EvV} {e x : EvV} (h : plain m = plain (P.isort ltQ s)) (hx : (x.F, x.M) = (e.F, e.M)) : plain (m.take (P.place ltQ e m m.length) ++ x :: m.drop (P.place ltQ e m m.length)) = plain (P.isort ltQ (s ++ [e])) := by
  rw [isort_snoc, ← plain_insQ, ← h, plain_insQ]
  unfold P.ins plain
  simp only [List.map_append, List.map_cons, hx]
theorem plain_takeN (l : List EvV) (i : Nat) : plain (l.take i) = (plain l).take i := by simp [plain, List.map_take]

/-- The newest samples of a node. -/
def newQ (k nd sz : Int) (l : List EvV) : List EvV := (P.isort ltQ (smps k nd l)).take sz.toNat
theorem mem_isortQ {s : List EvV} {e : EvV} : e ∈ P.isort ltQ s ↔ e ∈ s := ⟨(P.isort_stb ordQ s).mem ordQ, (P.isort_stb ordQ s).symm.mem ordQ⟩
theorem mem_newQ {k nd sz : Int} {l : List EvV} {e : EvV} (h : e ∈ newQ k nd sz l) : e ∈ l ∧ e.F 3 = 1 ∧ e.F 4 = k ∧ e.F 0 = nd := mem_smps.1 (mem_isortQ.1 (List.mem_of_mem_take h))
theorem plain_newQ {k nd sz : Int} {l m : List EvV} (h : plain m = plain l) : plain (newQ k nd sz m) = plain (newQ k nd sz l) := by
  unfold newQ
  rw [plain_takeN, plain_takeN, ← plain_isortQ, ← plain_isortQ, plain_smps, plain_smps, h]
/-- Their sum, within bounds. -/
def sumF (a : Int) (fs : List (Nat → Int)) : Int := fs.foldl (fun a F => S.add a (F 5)) a
def sumQ (s : List EvV) : Int := sumF 0 (s.map (·.F))
def meanQ (s : List EvV) : Int × Bool := if s.length = 0 then (0, false) else (S.cdiv (sumQ s) s.length, true)
theorem sumF_take {fs : List (Nat → Int)} {i : Nat} (h : i < fs.length) (a : Int) : sumF a (fs.take (i + 1)) = S.add (sumF a (fs.take i)) (fs[i] 5) := by
  unfold sumF
  rw [List.take_succ_eq_append_getElem h, List.foldl_append]
  rfl
theorem sumQ_take {s : List EvV} {i : Nat} (h : i < s.length) : sumQ (s.take (i + 1)) = S.add (sumQ (s.take i)) (s[i].F 5) := by
  unfold sumQ
  rw [List.map_take, List.map_take, sumF_take (by simpa using h)]
  simp
theorem sumQ_plain {s t : List EvV} (h : plain s = plain t) : sumQ s = sumQ t := by
  unfold sumQ
  rw [plain_F h]
theorem meanQ_plain {s t : List EvV} (h : plain s = plain t) : meanQ s = meanQ t := by
  have hl : s.length = t.length := by rw [← plain_len, h, plain_len]
  unfold meanQ
  rw [sumQ_plain h, hl]
/-- All nodes' means together, how many have one; up to the node j. -/
def ldQ (l : List EvV) (k sz : Int) : Nat → Int × Int
  | 0 => (0, 0)
  | j + 1 => if (meanQ (newQ k j sz l)).2 = true then (S.add (ldQ l k sz j).1 (meanQ (newQ k j sz l)).1, (ldQ l k sz j).2 + 1) else ldQ l k sz j
theorem ldQ_yes {l : List EvV} {k sz : Int} {j : Nat} {x : Int} (h : meanQ (newQ k j sz l) = (x, true)) : ldQ l k sz (j + 1) = (S.add (ldQ l k sz j).1 x, (ldQ l k sz j).2 + 1) := by
  rw [ldQ, h]; rfl
theorem ldQ_no {l : List EvV} {k sz : Int} {j : Nat} {x : Int} (h : meanQ (newQ k j sz l) = (x, false)) : ldQ l k sz (j + 1) = ldQ l k sz j := by
  rw [ldQ, h]; rfl
theorem ldQ_cnt (l : List EvV) (k sz : Int) : ∀ j, 0 ≤ (ldQ l k sz j).2 ∧ (ldQ l k sz j).2 ≤ j
  | 0 => ⟨Int.le_refl _, Int.le_refl _⟩
  | j + 1 => by
    have ih := ldQ_cnt l k sz j
    rw [ldQ]
    split
    · simp only; omega
    · omega
theorem ldQ_same {l m : List EvV} {k sz : Int} : ∀ {j : Nat}, (∀ i : Nat, i < j → meanQ (newQ k i sz m) = meanQ (newQ k i sz l)) → ldQ m k sz j = ldQ l k sz j
  | 0, _ => rfl
  | j + 1, h => by rw [ldQ, ldQ, h j (by omega), ldQ_same (fun i hi => h i (by omega))]
/-- A load: its number, how many nodes, an error's number. -/
def loadQ (l : List EvV) (k sz : Int) : Int × Int × Int := if sz < 1 ∨ 16 < sz then (0, 0, 2) else ((ldQ l k sz 8).1, (ldQ l k sz 8).2, 0)
theorem loadQ_same {l m : List EvV} {k sz : Int} (h : ∀ i : Nat, i < 8 → meanQ (newQ k i sz m) = meanQ (newQ k i sz l)) : loadQ m k sz = loadQ l k sz := by
  unfold loadQ
  rw [ldQ_same h]
theorem loadQ_plain {l m : List EvV} {k sz : Int} (h : plain m = plain l) : loadQ m k sz = loadQ l k sz := loadQ_same fun _ _ => meanQ_plain (plain_newQ h)
/-! As what comes of a call -/
theorem newQ_len (k nd sz : Int) (l : List EvV) : (newQ k nd sz l).length ≤ l.length := by
  unfold newQ
  rw [List.length_take, P.isort_len]
  have := smps_le k nd l
  omega
def meanV (p : Int × Bool) : Value := .tuple #[.int .i64 p.1, .bool p.2]

def loadV (p : Int × Int × Int) : Value := .tuple #[.int .i64 p.1, .int .i64 p.2.1, .int .i64 p.2.2]
end Go.Proofs.Ytodlifbhpgphcaa
