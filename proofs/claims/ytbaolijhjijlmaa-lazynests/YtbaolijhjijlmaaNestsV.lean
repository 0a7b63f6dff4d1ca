/-
  What LazyNests' cells tell, as plain numbers: each is its own number and those of all ahead of it.
-/
import Derived.Test.YtbaolijhjijlmaaArr
namespace Go.Proofs.Ytbaolijhjijlmaa
open Go.RowKit

def sumUp (s : Int) (l : List Int) : Int := l.foldl (fun s v => wrap64 (s + v)) s
def vals (av : Nat → Int) : Nat → List Int
  | 0 => []
  | i + 1 => vals av i ++ [(sumUp ((av i).tmod 1099511627776) (vals av i)).tmod 1099511627776]
def val (av : Nat → Int) (i : Nat) : Int := (sumUp ((av i).tmod 1099511627776) (vals av i)).tmod 1099511627776
def acc (av : Nat → Int) (i k : Nat) : Int := sumUp ((av i).tmod 1099511627776) ((vals av i).take k)

theorem vals_len (av : Nat → Int) : ∀ i, (vals av i).length = i
  | 0 => rfl
  | i + 1 => by simp [vals, vals_len av i]
theorem vals_get (av : Nat → Int) : ∀ i k, k < i → (vals av i)[k]? = some (val av k)
  | 0, _, h => absurd h (by omega)
  | i + 1, k, h => by
    by_cases e : k = i
    · subst e
      rw [vals, List.getElem?_append_right (by rw [vals_len]; omega), vals_len]
      simp [val]
    · rw [vals, List.getElem?_append_left (by rw [vals_len]; omega)]
      exact vals_get av i k (by omega)
theorem acc_zero (av : Nat → Int) (i : Nat) : acc av i 0 = (av i).tmod 1099511627776 := by simp [acc, sumUp]
theorem acc_succ (av : Nat → Int) (i k : Nat) (h : k < i) : acc av i (k + 1) = wrap64 (acc av i k + val av k) := by
  have hg := vals_get av i k h
  unfold acc
  rw [List.take_add_one, hg]
  simp [sumUp]
theorem val_acc (av : Nat → Int) (i : Nat) : val av i = (acc av i i).tmod 1099511627776 := by
  unfold val acc
  rw [List.take_of_length_le (by rw [vals_len]; omega)]
end Go.Proofs.Ytbaolijhjijlmaa
