/-
  The reference's symbol: code by code, held against symE.
-/
import Derived.Test.YtahibacjaoohiaaDoorRSto
import Derived.Test.YtahibacjaoohiaaDoorRRead
namespace Go.Proofs.YtahibacjaoohiaaDoor
open Go.RowKit

/-- A longer symbol among the first k. -/
def longer (L : Nat → Nat) (n : Nat) : Nat → Bool
  | 0 => false
  | k + 1 => longer L n k || decide (n < L k)
theorem longer_no {L : Nat → Nat} {n : Nat} : ∀ {N : Nat}, longer L n N = false → ∀ t, t < N → L t ≤ n
  | 0, _, t, h => by omega
  | N + 1, h, t, ht => by
    simp [longer] at h
    by_cases e : t = N
    · subst e; exact h.2
    · exact longer_no h.1 t (by omega)
theorem some_pos (L : Nat → Nat) (k : Nat) : decide (0 < some' L (k + 1)) = (decide (0 < some' L k) || decide (0 < L k)) := by
  by_cases h : L k = 0
  · simp [some', h]
  · have h1 : decide (0 < L k) = true := decide_eq_true (by omega)
    rw [h1, Bool.or_true]
    exact decide_eq_true (by simp only [some']; rw [if_neg h]; omega)
/-- No code of a longer length: what is left only doubles. -/
theorem left_up {c : Nat → Nat} {n : Nat} : ∀ k, (∀ m, n < m → c m = 0) → left c (n + k) = 2 ^ k * left c n
  | 0, _ => by simp
  | k + 1, h => by
    show 2 * left c (n + k) - c (n + k + 1) = _
    rw [h (n + k + 1) (by omega), left_up k h, Int.pow_succ]
    generalize (2 : Int) ^ k = P
    rw [Int.mul_comm P 2, Int.mul_assoc]; simp
theorem cnt_zero {L : Nat → Nat} {n : Nat} : ∀ {N : Nat}, (∀ t, t < N → L t ≠ n) → cnt L n N = 0
  | 0, _ => rfl
  | N + 1, h => by simp [cnt, cnt_zero (N := N) (fun t ht => h t (by omega)), h N (by omega)]
/-- A whole code: beyond the codes of a length there are longer ones. -/
theorem whole_longer {L : Nat → Nat} {N n c : Nat} (each : ∀ i, i < N → L i ≤ 15) (hw : full L N = 32768) (hn : n ≤ 15) (hc : c < 2 ^ n) (hb : first (cn L N) n + cn L N n ≤ c) : ∃ t, t < N ∧ n < L t := by
  by_cases h : ∃ t, t < N ∧ n < L t
  · exact h
  · exfalso
    have h0 : ∀ m, n < m → cn L N m = 0 := fun m hm => by
      rw [cn_pos (by omega)]
      exact cnt_zero fun t ht e => h ⟨t, ht, by omega⟩
    have h1 := left_eq (cn L N) (by simp [cn]) n
    have h2 := left_up (c := cn L N) (n := n) (15 - n) h0
    rw [show n + (15 - n) = 15 by omega] at h2
    have h3 := left_eq (cn L N) (by simp [cn]) 15
    have h4 := full_eq L N each
    have h5 : left (cn L N) 15 = 0 := by omega
    have h6 : 0 < left (cn L N) n := by
      have : ((c : Nat) : Int) < 2 ^ n := by
        have : ((c : Nat) : Int) < ((2 ^ n : Nat) : Int) := by omega
        rwa [Int.natCast_pow] at this
      omega
    have h7 : (0 : Int) < 2 ^ (15 - n) := by
      have : ((2 ^ (15 - n) : Nat) : Int) = 2 ^ (15 - n) := by rw [Int.natCast_pow]; rfl
      have := Nat.two_pow_pos (15 - n)
      omega
    have := Int.mul_pos h7 h6
    omega
/-- One symbol alone: its length is 1, its code 0. -/
theorem one_len {L : Nat → Nat} : ∀ {N : Nat}, some' L N = 1 → 0 < L (lastsym L N) ∧ ∀ t, t < N → 0 < L t → t = lastsym L N
  | 0, h => by simp [some'] at h
  | N + 1, h => by
    simp only [some'] at h
    by_cases h0 : L N = 0
    · have ih := one_len (N := N) (by simpa [h0] using h)
      have e : lastsym L (N + 1) = lastsym L N := by simp [lastsym, h0]
      rw [e]
      refine ⟨ih.1, fun t ht hp => ?_⟩
      by_cases e2 : t = N
      · subst e2; omega
      · exact ih.2 t (by omega) hp
    · have e : lastsym L (N + 1) = N := by simp [lastsym, h0]
      rw [e]
      refine ⟨by omega, fun t ht hp => ?_⟩
      by_cases e2 : t = N
      · exact e2
      · exfalso
        have hs : some' L N = 0 := by simp [h0] at h; exact h
        have key : ∀ M, some' L M = 0 → ∀ t, t < M → L t = 0 := by
          intro M
          induction M with
          | zero => intro _ t ht; omega
          | succ M ih =>
            intro h t ht
            simp only [some'] at h
            have h0 : L M = 0 := by split at h <;> omega
            by_cases e : t = M
            · subst e; exact h0
            · exact ih (by omega) t (by omega)
        have := key N hs t (by omega)
        omega
theorem cnt_one_ex {L : Nat → Nat} {n : Nat} : ∀ {N : Nat}, 0 < cnt L n N → ∃ t, t < N ∧ L t = n
  | 0, h => by simp [cnt] at h
  | N + 1, h => by
    simp only [cnt] at h
    by_cases e : L N = n
    · exact ⟨N, by omega, e⟩
    · rw [if_neg e] at h
      obtain ⟨t, h1, h2⟩ := cnt_one_ex (N := N) (by omega)
      exact ⟨t, by omega, h2⟩
theorem one_is {L : Nat → Nat} {N : Nat} (each : ∀ i, i < N → L i ≤ 15) (ok : okc L N = true) (h1 : some' L N = 1) : lastsym L N < N ∧ L (lastsym L N) = 1 ∧ codev L N (lastsym L N) = 0 ∧ (∀ t, t < N → L t ≤ 1) ∧ (∀ t, t < N → L t = 1 → t = lastsym L N) := by
  have hf : full L N = 16384 ∨ full L N = 32768 := by
    have : full L N = 32768 ∨ some' L N = 0 ∨ some' L N = 1 ∧ full L N = 16384 := by simpa [okc] using ok
    rcases this with h | h | h
    · exact .inr h
    · omega
    · exact .inl h.2
  have hN : 0 < N := by have := some_le L N; omega
  obtain ⟨hp, hu⟩ := one_len h1
  have hlt := lastsym_lt L N hN
  have hne : full L N ≠ 32768 := by
    have key : ∀ M, (∀ t, t < M → t < N) → full L M ≤ 16384 * some' L M := by
      intro M
      induction M with
      | zero => intro _; exact Nat.le_refl _
      | succ M ih =>
        intro hM
        have := ih (fun t ht => hM t (by omega))
        simp only [full, some']
        split
        · omega
        · have : 2 ^ (15 - L M) ≤ 2 ^ 14 := Nat.pow_le_pow_right (by omega) (by omega)
          omega
    have := key N (fun _ h => h)
    rw [h1] at this
    omega
  have hc := (full_one L N each h1).1 (by omega)
  obtain ⟨t, ht, htl⟩ := cnt_one_ex (L := L) (n := 1) (N := N) (by omega)
  have e := hu t ht (by omega)
  subst e
  have hl1 : L (lastsym L N) = 1 := htl
  refine ⟨hlt, hl1, ?_, fun t ht => ?_, fun t ht h => hu t ht (by omega)⟩
  · unfold codev
    rw [if_neg (by omega), hl1]
    have : cnt L 1 (lastsym L N) = 0 := cnt_zero fun s hs e2 => by have := hu s (by omega) (by omega); omega
    simp [first, cn, this]
  · by_cases h0 : L t = 0
    · omega
    · have := hu t ht (by omega); rw [this]; omega

/-- What symbol tells: -1 beside what went wrong. -/
def RSymR (F : Except Nat (Nat × Nat)) (B s sb : Nat) (a : Option Addr) (len cap : Nat) (z : Nat → Nat) (mo : Int) (v : Value) (out : List Int) (w : World) (e : Ending) (w' : World) : Prop :=
  ∃ (p' E' : Nat) (t : Int), RFl w' B s sb a len cap z mo E' v p' out ∧ Moves s sb v v w w' ∧ e = .returned (.int .i64 t) ∧ (E' = 0 ∧ (∃ n : Nat, t = n ∧ Hid (F = .ok (n, p'))) ∨ t = -1 ∧ 0 < E' ∧ Hid (F = .error E'))
/-- Step by step: what is read from n bits on, of code c. -/
def symN (L : Nat → Nat) (N : Nat) (z : Nat → Nat) (lim : Nat) (R : Except Nat (Nat × Nat)) (n c p : Nat) : Prop :=
  n ≤ 15 ∧ c < 2 ^ n ∧ first (cn L N) n + cn L N n ≤ c ∧
  ((some' L N = 1 ∧ n = 0 ∧ R = symE L N z lim p) ∨
   (full L N = 32768 ∧ 1 < some' L N ∧ R = if (rd L N (bit z) lim (15 - n) n c p).2.1 = true then .ok ((rd L N (bit z) lim (15 - n) n c p).1, (rd L N (bit z) lim (15 - n) n c p).2.2) else .error 3))
theorem symN_start {L : Nat → Nat} {N : Nat} {z : Nat → Nat} {lim p : Nat} (ok : okc L N = true) (h0 : 0 < some' L N) : symN L N z lim (symE L N z lim p) 0 0 p := by
  refine ⟨by omega, by simp, by simp [first, cn], ?_⟩
  by_cases h1 : some' L N = 1
  · exact .inl ⟨h1, rfl, rfl⟩
  · refine .inr ⟨?_, by omega, ?_⟩
    · have : full L N = 32768 ∨ some' L N = 0 ∨ some' L N = 1 ∧ full L N = 16384 := by simpa [okc] using ok
      omega
    · unfold symE; rw [if_neg (by omega), if_neg h1]; rfl
theorem symN_lt {L : Nat → Nat} {N : Nat} {z : Nat → Nat} {lim n c p : Nat} {R : Except Nat (Nat × Nat)} (each : ∀ i, i < N → L i ≤ 15) (h : symN L N z lim R n c p) : n < 15 := by
  obtain ⟨h1, h2, h3, h | ⟨hw, _, _⟩⟩ := h
  · omega
  · by_cases e : n = 15
    · subst e
      obtain ⟨t, ht, hl⟩ := whole_longer each hw h1 h2 h3
      have := each t ht
      omega
    · omega
theorem symN_end {L : Nat → Nat} {N : Nat} {z : Nat → Nat} {lim n c p : Nat} {R : Except Nat (Nat × Nat)} (each : ∀ i, i < N → L i ≤ 15) (h : symN L N z lim R n c p) (hp : ¬ p < lim) : R = .error 3 := by
  have hn := symN_lt each h
  obtain ⟨h1, h2, h3, ⟨hs, _, rfl⟩ | ⟨hw, _, rfl⟩⟩ := h
  · unfold symE; rw [if_neg (by omega), if_pos hs, if_neg hp]
  · rw [rd_no hn hp]; simp
theorem symN_hit {L : Nat → Nat} {N : Nat} {z : Nat → Nat} {lim n c p t : Nat} {R : Except Nat (Nat × Nat)} (each : ∀ i, i < N → L i ≤ 15) (ok : okc L N = true) (h : symN L N z lim R n c p) (hp : p < lim) (ht : t < N) (hl : L t = n + 1) (hc : codev L N t = 2 * c + bit z p) : R = .ok (t, p + 1) := by
  have hn := symN_lt each h
  obtain ⟨h1, h2, h3, ⟨hs, rfl, rfl⟩ | ⟨hw, _, rfl⟩⟩ := h
  · obtain ⟨k1, k2, k3, k4, k5⟩ := one_is each ok hs
    have e := k5 t ht (by omega)
    subst e
    have hb : bit z p = 0 := by omega
    unfold symE; rw [if_neg (by omega), if_pos hs, if_pos hp, if_pos hb]
  · obtain ⟨r, hr1, hr2, hr3⟩ := code_is ht (by omega) hl hc
    rw [rd_hit hn hp hr1 hr2, hr3]; simp
theorem symN_none {L : Nat → Nat} {N : Nat} {z : Nat → Nat} {lim n c p : Nat} {R : Except Nat (Nat × Nat)} (each : ∀ i, i < N → L i ≤ 15) (ok : okc L N = true) (h : symN L N z lim R n c p) (hp : p < lim) (hno : ∀ t, t < N → ¬ (L t = n + 1 ∧ codev L N t = 2 * c + bit z p)) :
    (longer L (n + 1) N = false ∧ R = .error 2) ∨ (longer L (n + 1) N = true ∧ symN L N z lim R (n + 1) (2 * c + bit z p) (p + 1)) := by
  have hn := symN_lt each h
  have hbl := bit_lt z p
  obtain ⟨h1, h2, h3, ⟨hs, rfl, rfl⟩ | ⟨hw, hs2, rfl⟩⟩ := h
  · obtain ⟨k1, k2, k3, k4, k5⟩ := one_is each ok hs
    left
    have c0 : c = 0 := by simp at h2; exact h2
    subst c0
    have hb : ¬ bit z p = 0 := fun e => hno _ k1 ⟨by omega, by omega⟩
    refine ⟨?_, by unfold symE; rw [if_neg (by omega), if_pos hs, if_pos hp, if_neg hb]⟩
    have key : ∀ M, M ≤ N → longer L 1 M = false := by
      intro M
      induction M with
      | zero => intro _; rfl
      | succ M ih => intro hM; simp [longer, ih (by omega)]; exact k4 M (by omega)
    exact key N (Nat.le_refl _)
  · have hfi : first (cn L N) (n + 1) ≤ 2 * c + bit z p := by simp only [first]; omega
    have hlt := code_none (L := L) (N := N) (n := n + 1) (c := 2 * c + bit z p) (by omega) hfi hno
    have hc2 : 2 * c + bit z p < 2 ^ (n + 1) := by rw [Nat.pow_succ]; omega
    right
    obtain ⟨t, ht, hl⟩ := whole_longer each hw (by omega : n + 1 ≤ 15) hc2 (by omega)
    refine ⟨?_, by omega, hc2, by omega, .inr ⟨hw, hs2, ?_⟩⟩
    · cases e : longer L (n + 1) N with
      | true => rfl
      | false => have := longer_no e t ht; omega
    · rw [rd_on hn hp hlt]
end Go.Proofs.YtahibacjaoohiaaDoor
