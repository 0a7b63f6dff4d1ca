
/-
  Lengths that come of splitting leaves are a whole code; none's among them change nothing. No Go text is walked here.
-/
import Derived.Test.YtahibacjaoohiaaDoorRow
namespace Go.Proofs.YtahibacjaoohiaaDoor

def kt (x : Int) : Nat := if x.toNat = 0 then 0 else 2 ^ (15 - x.toNat)
/-- What these lengths take up of 2^15. -/
def kr : List Int → Nat
  | [] => 0
  | x :: r => kt x + kr r
theorem kr_append : ∀ (a b : List Int), kr (a ++ b) = kr a + kr b
  | [], b => by simp [kr]
  | x :: a, b => by simp [kr, kr_append a b]; omega
theorem kr_set : ∀ (xs : List Int) (k : Nat) (v : Int), k < xs.length → kr (xs.set k v) + kt (xs.getD k 0) = kr xs + kt v
  | [], k, v, h => by simp at h
  | x :: r, 0, v, _ => by simp [kr]; omega
  | x :: r, k + 1, v, h => by
    have := kr_set r k v (by simpa using h)
    simp [kr] at this ⊢
    omega
theorem full_kr (xs : List Int) : ∀ k, k ≤ xs.length → full (fun i => (xs.getD i 0).toNat) k = kr (xs.take k)
  | 0, _ => by simp [full, kr]
  | k + 1, h => by
    have ih := full_kr xs k (by omega)
    have e : xs.take (k + 1) = xs.take k ++ [xs.getD k 0] := by
      rw [List.take_add_one]
      congr 1
      simp [show k < xs.length by omega]
    rw [e, kr_append, ← ih]
    simp [full, kr, kt]
theorem full_all (xs : List Int) : full (fun i => (xs.getD i 0).toNat) xs.length = kr xs := by
  rw [full_kr xs _ (Nat.le_refl _), List.take_length]

/-- One leaf, or leaves that fill all. -/
def Tree (xs : List Int) : Prop := xs = [0] ∨ (∀ x ∈ xs, 1 ≤ x ∧ x ≤ 15) ∧ kr xs = 32768
theorem Tree.bd {xs : List Int} (h : Tree xs) (k : Nat) : 0 ≤ xs.getD k 0 ∧ xs.getD k 0 ≤ 15 := by
  rw [List.getD_eq_getElem?_getD]
  cases e : xs[k]? with
  | none => simp
  | some y =>
    simp
    rcases h with rfl | ⟨h, _⟩
    · have := List.mem_of_getElem? e
      simp at this; omega
    · have := h y (List.mem_of_getElem? e); omega
theorem Tree.split {xs : List Int} (h : Tree xs) {k : Nat} (hk : k < xs.length) {x : Int} (hx : xs.getD k 0 = x) (h15 : x < 15) : Tree (xs.set k (x + 1) ++ [x + 1]) := by
  have hb := h.bd k
  rw [hx] at hb
  rcases h with rfl | ⟨h, hk2⟩
  · simp at hk
    subst hk
    simp at hx
    subst hx
    right
    exact ⟨by decide, by decide⟩
  · right
    have hm : x ∈ xs := by
      rw [List.getD_eq_getElem?_getD, List.getElem?_eq_getElem hk] at hx
      simp at hx
      rw [← hx]; exact List.getElem_mem hk
    have h1 := h x hm
    refine ⟨fun y hy => ?_, ?_⟩
    · rcases List.mem_append.1 hy with hy | hy
      · rcases List.mem_or_eq_of_mem_set hy with h2 | h2
        · exact h y h2
        · omega
      · simp at hy; omega
    · have h2 := kr_set xs k (x + 1) hk
      rw [hx] at h2
      rw [kr_append]
      have e1 : kt x = 2 * kt (x + 1) := by
        unfold kt
        rw [if_neg (by omega), if_neg (by omega), show 15 - x.toNat = (15 - (x + 1).toNat) + 1 by omega, Nat.pow_succ]
        omega
      simp only [kr]
      omega

/-- A whole code, or none. -/
def Whole (xs : List Int) : Prop := (∀ x ∈ xs, 0 ≤ x ∧ x ≤ 15) ∧ (kr xs = 32768 ∨ ∀ x ∈ xs, x = 0)
theorem Tree.whole {xs : List Int} (h : Tree xs) : Whole xs := by
  rcases h with rfl | ⟨h, h2⟩
  · exact ⟨by decide, .inr (by decide)⟩
  · exact ⟨fun x hx => by have := h x hx; omega, .inl h2⟩
theorem Whole.insert {xs : List Int} (h : Whole xs) (k : Nat) : Whole (xs.take k ++ [0] ++ xs.drop k) := by
  have hm : ∀ x, x ∈ xs.take k ++ [0] ++ xs.drop k → x = 0 ∨ x ∈ xs := by
    intro x hx
    rcases List.mem_append.1 hx with hx | hx
    · rcases List.mem_append.1 hx with hx | hx
      · exact .inr (List.mem_of_mem_take hx)
      · simp at hx; exact .inl hx
    · exact .inr (List.mem_of_mem_drop hx)
  refine ⟨fun x hx => ?_, ?_⟩
  · rcases hm x hx with rfl | h'
    · omega
    · exact h.1 x h'
  · rcases h.2 with h2 | h2
    · left
      have : kr xs = kr (xs.take k) + kr (xs.drop k) := by rw [← kr_append, List.take_append_drop]
      rw [kr_append, kr_append]
      simp [kr, kt]; omega
    · right
      intro x hx
      rcases hm x hx with h' | h'
      · exact h'
      · exact h2 x h'
theorem some_zero {L : Nat → Nat} : ∀ {N : Nat}, (∀ i, i < N → L i = 0) → some' L N = 0
  | 0, _ => rfl
  | N + 1, h => by simp [some', some_zero (N := N) (fun i hi => h i (by omega)), h N (by omega)]
theorem Whole.good {xs : List Int} (h : Whole xs) (hl : xs.length ≤ 320) : GoodL (fun i => xs.getD i 0) xs.length := by
  have hx : ∀ i, i < xs.length → xs.getD i 0 ∈ xs := fun i hi => by
    rw [List.getD_eq_getElem?_getD, List.getElem?_eq_getElem hi]; exact List.getElem_mem hi
  refine ⟨hl, fun i hi => h.1 _ (hx i hi), ?_⟩
  rcases h.2 with h2 | h2
  · exact decide_eq_true (.inl (by rw [full_all, h2]))
  · exact decide_eq_true (.inr (.inl (some_zero fun i hi => by show (xs.getD i 0).toNat = 0; rw [h2 _ (hx i hi)]; rfl)))
end Go.Proofs.YtahibacjaoohiaaDoor
