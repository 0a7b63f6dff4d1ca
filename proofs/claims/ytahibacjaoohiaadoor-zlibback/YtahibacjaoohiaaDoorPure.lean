
/-
  Canonical codes and bits, as plain numbers: how many codes there are of a length, which is the first, which symbol is which; what is read out of bits. No Go text is walked here.
-/
namespace Go.Proofs.YtahibacjaoohiaaDoor

/-- How many of the first k symbols have length n. -/
def cnt (L : Nat → Nat) (n : Nat) : Nat → Nat
  | 0 => 0
  | k + 1 => cnt L n k + if L k = n then 1 else 0
theorem cnt_le (L : Nat → Nat) (n : Nat) : ∀ k, cnt L n k ≤ k
  | 0 => Nat.le_refl _
  | k + 1 => by have := cnt_le L n k; simp only [cnt]; split <;> omega
theorem cnt_mono (L : Nat → Nat) (n : Nat) {i : Nat} : ∀ {j : Nat}, i ≤ j → cnt L n i ≤ cnt L n j
  | 0, h => by have : i = 0 := by omega
               subst this; exact Nat.le_refl _
  | j + 1, h => by
    rcases Nat.lt_or_ge i (j + 1) with h' | h'
    · have := cnt_mono L n (i := i) (j := j) (by omega); simp only [cnt]; omega
    · have : i = j + 1 := by omega
      subst this; exact Nat.le_refl _
theorem cnt_lt {L : Nat → Nat} {n i N : Nat} (h : i < N) (e : L i = n) : cnt L n i < cnt L n N := by
  have h1 : cnt L n (i + 1) = cnt L n i + 1 := by simp [cnt, e]
  have := cnt_mono L n (i := i + 1) (j := N) (by omega)
  omega
theorem cnt_inj {L : Nat → Nat} {n i j : Nat} (hi : L i = n) (hj : L j = n) (h : cnt L n i = cnt L n j) : i = j := by
  rcases Nat.lt_trichotomy i j with h1 | h1 | h1
  · have := cnt_lt h1 hi; omega
  · exact h1
  · have := cnt_lt h1 hj; omega
theorem cnt_congr {L L' : Nat → Nat} {n : Nat} : ∀ {k : Nat}, (∀ i, i < k → L i = L' i) → cnt L n k = cnt L' n k
  | 0, _ => rfl
  | k + 1, h => by simp only [cnt, cnt_congr (k := k) (fun i hi => h i (by omega)), h k (by omega)]

/-- How many codes there are of length n, of N symbols: none of length 0. -/
def cn (L : Nat → Nat) (N n : Nat) : Nat := if n = 0 then 0 else cnt L n N
theorem cn_pos {L : Nat → Nat} {N n : Nat} (h : 0 < n) : cn L N n = cnt L n N := by simp [cn, show n ≠ 0 by omega]
theorem cn_le (L : Nat → Nat) (N n : Nat) : cn L N n ≤ N := by unfold cn; split; omega; exact cnt_le _ _ _

/-- The first code of length n. -/
def first (c : Nat → Nat) : Nat → Nat
  | 0 => 0
  | n + 1 => 2 * (first c n + c n)
/-- Where the symbols of length n begin. -/
def place (c : Nat → Nat) : Nat → Nat
  | 0 => 0
  | n + 1 => place c n + c n
/-- What is left at length n. -/
def left (c : Nat → Nat) : Nat → Int
  | 0 => 1
  | n + 1 => 2 * left c n - c (n + 1)

theorem first_up (c : Nat → Nat) {n : Nat} : ∀ k, first c (n + 1 + k) ≥ 2 ^ (k + 1) * (first c n + c n)
  | 0 => by simp [first]
  | k + 1 => by
    have := first_up c (n := n) k
    show 2 * (first c (n + 1 + k) + c (n + 1 + k)) ≥ _
    rw [Nat.pow_succ]
    generalize 2 ^ (k + 1) = P at *
    have e : P * 2 * (first c n + c n) = 2 * (P * (first c n + c n)) := by rw [Nat.mul_comm P 2, Nat.mul_assoc]
    omega
theorem first_far {c : Nat → Nat} {n m : Nat} (h : n < m) : 2 ^ (m - n) * (first c n + c n) ≤ first c m := by
  have := first_up c (n := n) (m - n - 1)
  rw [show n + 1 + (m - n - 1) = m by omega, show m - n - 1 + 1 = m - n by omega] at this
  exact this
theorem place_up (c : Nat → Nat) {n : Nat} : ∀ {m : Nat}, n < m → place c n + c n ≤ place c m
  | 0, h => by omega
  | m + 1, h => by
    rcases Nat.lt_or_ge n m with h' | h'
    · have := place_up c (n := n) (m := m) h'; simp only [place]; omega
    · have : n = m := by omega
      subst this; exact Nat.le_refl _
theorem place_inj {c : Nat → Nat} {n m r s : Nat} (hr : r < c n) (hs : s < c m) (h : place c n + r = place c m + s) : n = m ∧ r = s := by
  rcases Nat.lt_trichotomy n m with h1 | h1 | h1
  · have := place_up c h1; omega
  · subst h1; exact ⟨rfl, by omega⟩
  · have := place_up c h1; omega
theorem left_eq (c : Nat → Nat) (h0 : c 0 = 0) : ∀ n, (first c n : Int) + c n + left c n = 2 ^ n
  | 0 => by simp [first, left, h0]
  | n + 1 => by
    have := left_eq c h0 n
    simp only [first, left, Int.pow_succ]
    generalize (2 : Int) ^ n = P at *
    simp only [Int.natCast_mul, Int.natCast_add]
    omega

/-- What is taken up of 2^15. -/
def full (L : Nat → Nat) : Nat → Nat
  | 0 => 0
  | k + 1 => full L k + if L k = 0 then 0 else 2 ^ (15 - L k)
/-- How many symbols have a code. -/
def some' (L : Nat → Nat) : Nat → Nat
  | 0 => 0
  | k + 1 => some' L k + if L k = 0 then 0 else 1

theorem cn_succ (L : Nat → Nat) (k n : Nat) : cn L (k + 1) n = cn L k n + if n ≠ 0 ∧ L k = n then 1 else 0 := by
  by_cases h : n = 0
  · simp [cn, h]
  · simp [cn, cnt, h]
theorem first_succ (L : Nat → Nat) (k : Nat) : ∀ n, first (cn L (k + 1)) n + cn L (k + 1) n = first (cn L k) n + cn L k n + if L k ≠ 0 ∧ L k ≤ n then 2 ^ (n - L k) else 0
  | 0 => by
    simp [first, cn]
  | n + 1 => by
    have ih := first_succ L k n
    have h2 := cn_succ L k (n + 1)
    simp only [first]
    rw [h2]
    by_cases h0 : L k = 0
    · simp [h0] at ih ⊢
      omega
    · by_cases hn : L k ≤ n
      · rw [if_pos ⟨h0, hn⟩] at ih
        rw [if_neg (by omega), if_pos ⟨h0, by omega⟩]
        rw [show n + 1 - L k = (n - L k) + 1 by omega, Nat.pow_succ]
        omega
      · rw [if_neg (by omega)] at ih
        by_cases he : L k = n + 1
        · rw [if_pos ⟨by omega, he⟩, if_pos ⟨h0, by omega⟩, he]
          simp; omega
        · rw [if_neg (by omega), if_neg (by omega)]
          omega
theorem full_eq (L : Nat → Nat) : ∀ N, (∀ i, i < N → L i ≤ 15) → full L N = first (cn L N) 15 + cn L N 15
  | 0, _ => by
    have : ∀ n, first (cn L 0) n = 0 := by intro n; induction n with | zero => rfl | succ n ih => simp [first, ih, cn, cnt]
    rw [this]; simp [full, cn, cnt]
  | N + 1, h => by
    have ih := full_eq L N (fun i hi => h i (by omega))
    have := first_succ L N 15
    have hN := h N (by omega)
    rw [this, ← ih]
    simp only [full]
    by_cases h0 : L N = 0
    · simp [h0]
    · rw [if_neg h0, if_pos ⟨h0, hN⟩]

def sumc (c : Nat → Nat) : Nat → Nat
  | 0 => 0
  | n + 1 => sumc c n + c (n + 1)
theorem sumc_place (c : Nat → Nat) (h0 : c 0 = 0) : ∀ n, sumc c n = place c (n + 1)
  | 0 => by simp [sumc, place, h0]
  | n + 1 => by simp only [sumc, sumc_place c h0 n]; rfl
theorem sumc_succ (L : Nat → Nat) (k : Nat) : ∀ n, sumc (cn L (k + 1)) n = sumc (cn L k) n + if L k ≠ 0 ∧ L k ≤ n then 1 else 0
  | 0 => by
    simp [sumc]
  | n + 1 => by
    have ih := sumc_succ L k n
    have h2 := cn_succ L k (n + 1)
    simp only [sumc]
    rw [h2, ih]
    by_cases h0 : L k = 0
    · simp [h0]
    · by_cases hn : L k ≤ n
      · rw [if_pos ⟨h0, hn⟩, if_neg (by omega), if_pos ⟨h0, by omega⟩]; omega
      · rw [if_neg (by omega)]
        by_cases he : L k = n + 1
        · rw [if_pos ⟨by omega, he⟩, if_pos ⟨h0, by omega⟩]; omega
        · rw [if_neg (by omega), if_neg (by omega)]; omega
theorem some_eq (L : Nat → Nat) : ∀ N, (∀ i, i < N → L i ≤ 15) → some' L N = sumc (cn L N) 15
  | 0, _ => by
    have : ∀ n, sumc (cn L 0) n = 0 := by intro n; induction n with | zero => rfl | succ n ih => simp [sumc, ih, cn, cnt]
    rw [this]; rfl
  | N + 1, h => by
    have ih := some_eq L N (fun i hi => h i (by omega))
    have hN := h N (by omega)
    rw [sumc_succ, ← ih]
    simp only [some']
    by_cases h0 : L N = 0
    · simp [h0]
    · rw [if_neg h0, if_pos ⟨h0, hN⟩]
theorem some_le (L : Nat → Nat) : ∀ N, some' L N ≤ N
  | 0 => Nat.le_refl _
  | N + 1 => by have := some_le L N; simp only [some']; split <;> omega
theorem full_none (L : Nat → Nat) : ∀ N, some' L N = 0 → full L N = 0
  | 0, _ => rfl
  | N + 1, h => by
    simp only [some'] at h
    have h0 : L N = 0 := by split at h <;> omega
    simp [full, h0, full_none L N (by omega)]
theorem full_le (L : Nat → Nat) : ∀ N, full L N ≤ 16384 * N
  | 0 => Nat.le_refl _
  | N + 1 => by
    have := full_le L N
    simp only [full]
    split
    · omega
    · have : 2 ^ (15 - L N) ≤ 2 ^ 14 := Nat.pow_le_pow_right (by omega) (by omega)
      omega
/-- One symbol alone: its length tells what is taken up. -/
theorem full_one (L : Nat → Nat) : ∀ N, (∀ i, i < N → L i ≤ 15) → some' L N = 1 → (full L N = 16384 ↔ cnt L 1 N = 1)
  | 0, _, h => by simp [some'] at h
  | N + 1, hb, h => by
    have hN := hb N (by omega)
    simp only [some'] at h
    by_cases h0 : L N = 0
    · have ih := full_one L N (fun i hi => hb i (by omega)) (by simpa [h0] using h)
      simp [full, cnt, h0, ih]
    · have hs : some' L N = 0 := by simp [h0] at h; exact h
      have hf := full_none L N hs
      have hc : cnt L 1 N = 0 := by
        have key : ∀ M, some' L M = 0 → cnt L 1 M = 0 := by
          intro M
          induction M with
          | zero => intro _; rfl
          | succ M ih =>
            intro h
            simp only [some'] at h
            have h0 : L M = 0 := by split at h <;> omega
            simp [cnt, h0, ih (by omega)]
        exact key N hs
      simp only [full, cnt, hf, hc, if_neg h0, Nat.zero_add]
      constructor
      · intro he
        have : 15 - L N = 14 := (Nat.pow_right_inj (a := 2) (by omega)).1 (by simpa using he)
        rw [if_pos (by omega)]
      · intro he
        have : L N = 1 := by split at he <;> omega
        rw [this]

/-- These lengths are a code. -/
def okc (L : Nat → Nat) (N : Nat) : Bool := decide (full L N = 32768 ∨ some' L N = 0 ∨ some' L N = 1 ∧ full L N = 16384)
theorem okc_left (L : Nat → Nat) (N : Nat) (h : ∀ i, i < N → L i ≤ 15) : okc L N = decide (left (cn L N) 15 = 0 ∨ sumc (cn L N) 15 = 0 ∨ sumc (cn L N) 15 = 1 ∧ cn L N 1 = 1) := by
  unfold okc
  have h1 := full_eq L N h
  have h2 := left_eq (cn L N) (by simp [cn]) 15
  have h3 := some_eq L N h
  apply decide_eq_decide.2
  have ea : full L N = 32768 ↔ left (cn L N) 15 = 0 := by
    rw [h1]; constructor <;> intro _ <;> omega
  rw [ea, ← h3]
  by_cases h1' : some' L N = 1
  · have := full_one L N h h1'
    rw [this]; rfl
  · simp [h1']
theorem full_okc {L : Nat → Nat} {N : Nat} (h : okc L N = true) : full L N ≤ 32768 := by
  have : full L N = 32768 ∨ some' L N = 0 ∨ some' L N = 1 ∧ full L N = 16384 := by simpa [okc] using h
  rcases this with h | h | h
  · omega
  · rw [full_none L N h]; omega
  · omega
theorem left_nonneg {c : Nat → Nat} : ∀ {m n : Nat}, n ≤ m → 0 ≤ left c m → 0 ≤ left c n
  | 0, n, h, h0 => by have : n = 0 := by omega
                      subst this; exact h0
  | m + 1, n, h, h0 => by
    rcases Nat.lt_or_ge n (m + 1) with h' | h'
    · refine left_nonneg (m := m) (by omega) ?_
      simp only [left] at h0; omega
    · have : n = m + 1 := by omega
      subst this; exact h0
theorem first_fits {L : Nat → Nat} {N : Nat} (h : ∀ i, i < N → L i ≤ 15) (ho : okc L N = true) {n : Nat} (hn : n ≤ 15) : first (cn L N) n + cn L N n ≤ 2 ^ n := by
  have h1 := full_eq L N h
  have h2 := left_eq (cn L N) (by simp [cn])
  have h3 := h2 15
  have h4 := full_okc ho
  have h5 := left_nonneg (c := cn L N) hn (by omega)
  have h6 := h2 n
  have : ((first (cn L N) n + cn L N n : Nat) : Int) ≤ ((2 ^ n : Nat) : Int) := by
    rw [Int.natCast_pow]; simp only [Int.natCast_add]
    have e : ((2 : Nat) : Int) = 2 := rfl
    rw [e]; omega
  omega

/-- A symbol's code. -/
def codev (L : Nat → Nat) (N i : Nat) : Nat := if L i = 0 then 0 else first (cn L N) (L i) + cnt L (L i) i
/-- The r-th symbol of length n. -/
def sym (L : Nat → Nat) (n r : Nat) : Nat → Nat
  | 0 => 0
  | k + 1 => if L k = n ∧ cnt L n k = r then k else sym L n r k
theorem sym_is {L : Nat → Nat} {n r : Nat} : ∀ {N : Nat}, r < cnt L n N → sym L n r N < N ∧ L (sym L n r N) = n ∧ cnt L n (sym L n r N) = r
  | 0, h => by simp [cnt] at h
  | N + 1, h => by
    unfold sym
    split
    · rename_i h'; exact ⟨by omega, h'.1, h'.2⟩
    · rename_i h'
      have : r < cnt L n N := by
        simp only [cnt] at h
        split at h
        · rename_i e
          rcases Nat.lt_or_ge r (cnt L n N) with h2 | h2
          · exact h2
          · exact absurd ⟨e, by omega⟩ h'
        · omega
      have := sym_is (N := N) this
      exact ⟨by omega, this.2⟩
theorem sym_eq {L : Nat → Nat} {n i N : Nat} (hi : i < N) (e : L i = n) : sym L n (cnt L n i) N = i := by
  have h := sym_is (L := L) (n := n) (r := cnt L n i) (N := N) (cnt_lt hi e)
  exact cnt_inj h.2.1 e h.2.2

/-- What is read: from p on, n bits are taken, their number is c; at most f bits more. -/
def rd (L : Nat → Nat) (N : Nat) (b : Nat → Nat) (lim : Nat) : Nat → Nat → Nat → Nat → Nat × Bool × Nat
  | 0, _, _, p => (0, false, p)
  | f + 1, n, c, p =>
    if p < lim then
      if 2 * c + b p < first (cn L N) (n + 1) + cn L N (n + 1) then (sym L (n + 1) (2 * c + b p - first (cn L N) (n + 1)) N, true, p + 1)
      else rd L N b lim f (n + 1) (2 * c + b p) (p + 1)
    else (0, false, p)
def rdv (L : Nat → Nat) (N : Nat) (b : Nat → Nat) (lim p : Nat) : Nat × Bool × Nat := rd L N b lim 15 0 0 p

/-- Shorter codes are all below what a longer one begins with. -/
theorem code_far {L : Nat → Nat} {N i n : Nat} (hn : n < L i) : first (cn L N) n + cn L N n ≤ codev L N i / 2 ^ (L i - n) := by
  have h := first_far (c := cn L N) hn
  have h0 : L i ≠ 0 := by omega
  rw [Nat.le_div_iff_mul_le (Nat.two_pow_pos _), Nat.mul_comm]
  unfold codev; rw [if_neg h0]; omega
theorem code_lt {L : Nat → Nat} {N i : Nat} (hi : i < N) (h0 : 0 < L i) : codev L N i < first (cn L N) (L i) + cn L N (L i) := by
  have := cnt_lt (L := L) (n := L i) hi rfl
  unfold codev; rw [if_neg (by omega), cn_pos h0]; omega

theorem rd_back {L : Nat → Nat} {N : Nat} {b : Nat → Nat} {lim p i : Nat} (hi : i < N) (hp : p + L i ≤ lim) (h15 : L i ≤ 15) (hb : ∀ k, k < L i → b (p + k) = codev L N i / 2 ^ (L i - 1 - k) % 2) :
    ∀ (d n : Nat), d + n = L i → 0 < d → rd L N b lim (15 - n) n (codev L N i / 2 ^ d) (p + n) = (i, true, p + L i)
  | 0, n, _, h => by omega
  | d + 1, n, h, _ => by
    rw [show 15 - n = (15 - n - 1) + 1 by omega]
    unfold rd
    rw [if_pos (by omega), hb n (by omega), show L i - 1 - n = d by omega]
    have e : 2 * (codev L N i / 2 ^ (d + 1)) + codev L N i / 2 ^ d % 2 = codev L N i / 2 ^ d := by
      rw [Nat.pow_succ, ← Nat.div_div_eq_div_mul]; omega
    rw [e]
    by_cases hd : d = 0
    · subst hd
      have hn : n + 1 = L i := by omega
      rw [hn, Nat.pow_zero, Nat.div_one, if_pos (code_lt hi (by omega))]
      have : codev L N i - first (cn L N) (L i) = cnt L (L i) i := by unfold codev; rw [if_neg (by omega)]; omega
      rw [this, sym_eq hi rfl]
      simp; omega
    · have h2 := code_far (L := L) (N := N) (i := i) (n := n + 1) (by omega)
      rw [show L i - (n + 1) = d by omega] at h2
      rw [if_neg (by omega), show 15 - n - 1 = 15 - (n + 1) by omega, Nat.add_assoc]
      exact rd_back hi hp h15 hb d (n + 1) (by omega) (by omega)
theorem rdv_back {L : Nat → Nat} {N : Nat} {b : Nat → Nat} {lim p i : Nat} (hi : i < N) (h0 : 0 < L i) (hp : p + L i ≤ lim) (h15 : L i ≤ 15) (hb : ∀ k, k < L i → b (p + k) = codev L N i / 2 ^ (L i - 1 - k) % 2) (hc : codev L N i < 2 ^ L i) :
    rdv L N b lim p = (i, true, p + L i) := by
  have := rd_back hi hp h15 hb (L i) 0 (by omega) h0
  rw [Nat.div_eq_of_lt hc] at this
  exact this

/-- The bit at p of the bytes z. -/
def bit (z : Nat → Nat) (p : Nat) : Nat := z (p / 8) / 2 ^ (p % 8) % 2
/-- The number of the n bits from p on, the first its lowest. -/
def takev (z : Nat → Nat) (p : Nat) : Nat → Nat
  | 0 => 0
  | n + 1 => takev z p n + bit z (p + n) * 2 ^ n
theorem bit_lt (z : Nat → Nat) (p : Nat) : bit z p < 2 := Nat.mod_lt _ (by omega)
theorem takev_lt (z : Nat → Nat) (p : Nat) : ∀ n, takev z p n < 2 ^ n
  | 0 => by simp [takev]
  | n + 1 => by
    have h1 := takev_lt z p n
    have h2 := bit_lt z (p + n)
    simp only [takev, Nat.pow_succ]
    generalize 2 ^ n = P at *
    have : bit z (p + n) = 0 ∨ bit z (p + n) = 1 := by omega
    rcases this with h | h <;> rw [h] <;> omega
theorem takev_add (z : Nat → Nat) (p a : Nat) : ∀ n, takev z p (a + n) = takev z p a + 2 ^ a * takev z (p + a) n
  | 0 => by simp [takev]
  | n + 1 => by
    rw [← Nat.add_assoc]
    simp only [takev, takev_add z p a n, Nat.pow_add, Nat.mul_add, Nat.add_assoc]
    congr 2
    rw [Nat.mul_comm (2 ^ a) (2 ^ n), ← Nat.mul_assoc, Nat.mul_comm]
theorem takev_bit (z : Nat → Nat) (p : Nat) : ∀ {n k : Nat}, k < n → takev z p n / 2 ^ k % 2 = bit z (p + k)
  | n, k, h => by
    have e : n = k + (1 + (n - k - 1)) := by omega
    rw [e, takev_add, takev_add]
    have h1 := takev_lt z p k
    have e1 : takev z (p + k) 1 = bit z (p + k) := by simp [takev]
    rw [e1, Nat.add_mul_div_left _ _ (Nat.two_pow_pos _), Nat.div_eq_of_lt h1]
    have := bit_lt z (p + k)
    omega
theorem takev_byte (z : Nat → Nat) (q : Nat) (h : z q < 256) : takev z (8 * q) 8 = z q := by
  have e : ∀ k, k < 8 → bit z (8 * q + k) = z q / 2 ^ k % 2 := by
    intro k hk
    unfold bit
    rw [show (8 * q + k) / 8 = q by omega, show (8 * q + k) % 8 = k by omega]
  simp only [takev, e 0 (by omega), e 1 (by omega), e 2 (by omega), e 3 (by omega), e 4 (by omega), e 5 (by omega), e 6 (by omega), e 7 (by omega)]
  omega
/-- m bytes from q on, the lowest first. -/
def numle (z : Nat → Nat) (q : Nat) : Nat → Nat
  | 0 => 0
  | m + 1 => numle z q m + z (q + m) * 2 ^ (8 * m)
theorem numle_take (z : Nat → Nat) (hz : ∀ i, z i < 256) (q : Nat) : ∀ m, numle z q m = takev z (8 * q) (8 * m)
  | 0 => rfl
  | m + 1 => by
    rw [show 8 * (m + 1) = 8 * m + 8 by omega, takev_add, ← numle_take z hz q m, show 8 * q + 8 * m = 8 * (q + m) by omega, takev_byte z _ (hz _)]
    simp only [numle]; rw [Nat.mul_comm (2 ^ (8 * m))]
theorem numle_lt (z : Nat → Nat) (hz : ∀ i, z i < 256) (q m : Nat) : numle z q m < 2 ^ (8 * m) := by
  rw [numle_take z hz]; exact takev_lt _ _ _
/-- The n bits that begin at bit r of byte q lie within m bytes. -/
theorem numle_cut (z : Nat → Nat) (hz : ∀ i, z i < 256) (q m r n : Nat) (h : r + n ≤ 8 * m) : numle z q m / 2 ^ r % 2 ^ n = takev z (8 * q + r) n := by
  rw [numle_take z hz, show 8 * m = r + (n + (8 * m - r - n)) by omega, takev_add, takev_add]
  rw [Nat.add_mul_div_left _ _ (Nat.two_pow_pos _), Nat.div_eq_of_lt (takev_lt z _ r), Nat.zero_add, Nat.add_mul_mod_self_left]
  exact Nat.mod_eq_of_lt (takev_lt _ _ _)
end Go.Proofs.YtahibacjaoohiaaDoor
