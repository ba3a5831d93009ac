/- The plain mathematics of layer 6: a set's bytes. -/
import Derived.Test.YtlckappnpdkihaaDotMath
import Derived.Test.YtlckappnpdkihaaVintMath
namespace Go.Proofs.Ytlckappnpdkihaa.D
set_option linter.unusedVariables false
set_option linter.unusedSimpArgs false

def encU (U : Nat → Int) : Nat → List Int
  | 0 => []
  | k + 1 => encU U k ++ V.enc (U k)
def encM (M : List Dot) : List Int := M.flatMap fun d => V.enc d.1 ++ V.enc d.2
/-- A set's bytes. -/
def encS (U : Nat → Int) (M : List Dot) : List Int := encU U 8 ++ V.enc (M.length : Int) ++ encM M
theorem enc_one {n : Int} (h : n ≤ 96) : V.enc n = [n] := V.enc_small (by omega)
theorem encU_len {U : Nat → Int} (h : ∀ k, k < 8 → 0 ≤ U k ∧ U k ≤ 96) : ∀ k, k ≤ 8 → (encU U k).length = k
  | 0, _ => rfl
  | k + 1, hk => by
    have := h k (by omega)
    unfold encU
    rw [enc_one this.2, List.length_append, encU_len h k (by omega)]; rfl
theorem encM_snoc (M : List Dot) (d : Dot) : encM (M ++ [d]) = encM M ++ (V.enc d.1 ++ V.enc d.2) := by simp [encM]
theorem encM_len {M : List Dot} (h : ∀ d ∈ M, may d = true) : (encM M).length = 2 * M.length := by
  induction M with
  | nil => rfl
  | cons d M ih =>
    have hd := may_iff.1 (h d (by simp))
    have : encM (d :: M) = V.enc d.1 ++ V.enc d.2 ++ encM M := rfl
    rw [this, enc_one (by omega), enc_one hd.2.2.2, List.length_append, ih (fun x hx => h x (List.mem_cons_of_mem _ hx))]
    simp; omega
theorem len_enc {n : Nat} (h : n ≤ 768) : (V.enc (n : Int)).length ≤ 2 := V.enc_len 1 _ (by simp; omega)
theorem encS_len {U : Nat → Int} {M : List Dot} (h : rt U M = true) : (encS U M).length ≤ 2000 := by
  have h1 := encU_len (rt_iff.1 h).1 8 (by omega)
  have h2 := encM_len (M := M) (fun d hd => (rt_may h hd).1)
  have h3 := rt_len h
  have h4 := len_enc h3
  unfold encS
  simp [h1, h2]
  omega
/-- What Put answers: the bytes, the error. -/
def putB (U : Nat → Int) (M : List Dot) : List Int := if rt U M then encS U M else []
def putE (U : Nat → Int) (M : List Dot) : Int := if rt U M then 0 else 2
end Go.Proofs.Ytlckappnpdkihaa.D
