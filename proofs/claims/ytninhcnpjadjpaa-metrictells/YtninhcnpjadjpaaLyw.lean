/-
  sfnt.Lay as a contract.
-/
import Derived.Test.YtninhcnpjadjpaaLay
import Derived.Test.YtninhcnpjadjpaaBig
namespace Go.Proofs.Ytninhcnpjadjpaa
open Go.RowKit

def zer4 : List Int := [0, 0, 0, 0]
/-- The head. -/
def headB (n : Nat) : List Int := [0, 1, 0, 0] ++ [0, (n : Int)] ++ List.replicate 6 0
/-- The first k records; offs: where the first table stands. -/
def recsB (s : Nat → ByteArray) (t : Nat → Tab) (o : Nat) : Nat → List Int
  | 0 => []
  | k + 1 => recsB s t o k ++ (txtL (s k) ++ (zer4 ++ (wd4 (o + sumN t k) ++ wd4 (t k).l)))
/-- A font that is laid. -/
def layB (s : Nat → ByteArray) (t : Nat → Tab) (n : Nat) : List Int := headB n ++ recsB s t (12 + 16 * n) n ++ bodyB t n
theorem headB_len (n : Nat) : (headB n).length = 12 := by simp [headB]
theorem recsB_len {s : Nat → ByteArray} {t : Nat → Tab} {o n : Nat} (h : ∀ k, k < n → (s k).size = 4) : ∀ {k : Nat}, k ≤ n → (recsB s t o k).length = 16 * k
  | 0, _ => rfl
  | k + 1, hk => by
    rw [recsB, List.length_append, List.length_append, List.length_append, List.length_append, recsB_len h (k := k) (by omega), txtL_len, h k (by omega)]
    simp [zer4, wd4_len]; omega
theorem sumN_mono {t : Nat → Tab} {n : Nat} : ∀ {k : Nat}, k ≤ n → sumN t k ≤ sumN t n := by
  intro k hk
  induction n with
  | zero => have : k = 0 := by omega
            subst this; exact Nat.le_refl _
  | succ n ih =>
    by_cases e : k = n + 1
    · subst e; exact Nat.le_refl _
    · have := ih (by omega)
      show _ ≤ sumN t n + _
      omega
theorem sumN_each {t : Nat → Tab} {n k : Nat} (h : k < n) : sumN t k + (t k).l ≤ sumN t n := sumN_mono (t := t) (k := k + 1) h
theorem layB_len {s : Nat → ByteArray} {t : Nat → Tab} {n : Nat} (h : okN s n = true) : (layB s t n).length = 12 + 16 * n + sumN t n := by
  unfold layB
  rw [List.length_append, List.length_append, headB_len, recsB_len (fun k hk => (okN_iff.1 h k hk).1) (Nat.le_refl _), bodyB_len]

end Go.Proofs.Ytninhcnpjadjpaa
