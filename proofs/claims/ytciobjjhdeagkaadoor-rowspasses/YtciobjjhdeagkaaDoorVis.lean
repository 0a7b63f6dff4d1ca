/-
  Which places of an image Adam7's passes have had, as plain numbers. No Go text is walked here.
-/
import Derived.Test.YtciobjjhdeagkaaDoorPss
namespace Go.Proofs.YtciobjjhdeagkaaDoor
open Go.RowKit

theorem cnt_iff {s f d j : Nat} (hfd : f < d) : j < cntv s f d ↔ f + d * j < s := by
  unfold cntv
  rw [show j < (s + d - 1 - f) / d ↔ j + 1 ≤ (s + d - 1 - f) / d from Iff.rfl, Nat.le_div_iff_mul_le (by omega), Nat.add_mul, Nat.mul_comm j d]
  omega
theorem cnt_le {s f d : Nat} (hfd : f < d) : cntv s f d ≤ s := by
  rcases Nat.lt_or_ge s (cntv s f d) with h | h
  · have := (cnt_iff (s := s) hfd).1 h
    have h2 : s ≤ d * s := Nat.le_mul_of_pos_left s (by omega)
    omega
  · exact h
/-- Which pass a place is in. -/
def po (x y : Nat) : Nat :=
  if x % 8 = 0 ∧ y % 8 = 0 then 0 else if x % 8 = 4 ∧ y % 8 = 0 then 1 else if x % 4 = 0 ∧ y % 8 = 4 then 2 else if x % 4 = 2 ∧ y % 4 = 0 then 3 else if x % 2 = 0 ∧ y % 4 = 2 then 4 else if x % 2 = 1 ∧ y % 2 = 0 then 5 else 6
theorem po_lt (x y : Nat) : po x y < 7 := by unfold po; repeat' split
                                             all_goals omega
theorem po_of (m : Nat) (hm : m < 7) (t j : Nat) : po (adX m + adDX m * t) (adY m + adDY m * j) = m := by
  rcases (show m = 0 ∨ m = 1 ∨ m = 2 ∨ m = 3 ∨ m = 4 ∨ m = 5 ∨ m = 6 by omega) with rfl | rfl | rfl | rfl | rfl | rfl | rfl
  · change po (0 + 8 * t) (0 + 8 * j) = 0; unfold po; rw [if_pos (by omega)]
  · change po (4 + 8 * t) (0 + 8 * j) = 1; unfold po; rw [if_neg (by omega), if_pos (by omega)]
  · change po (0 + 4 * t) (4 + 8 * j) = 2; unfold po; rw [if_neg (by omega), if_neg (by omega), if_pos (by omega)]
  · change po (2 + 4 * t) (0 + 4 * j) = 3; unfold po; rw [if_neg (by omega), if_neg (by omega), if_neg (by omega), if_pos (by omega)]
  · change po (0 + 2 * t) (2 + 4 * j) = 4; unfold po; rw [if_neg (by omega), if_neg (by omega), if_neg (by omega), if_neg (by omega), if_pos (by omega)]
  · change po (1 + 2 * t) (0 + 2 * j) = 5; unfold po; rw [if_neg (by omega), if_neg (by omega), if_neg (by omega), if_neg (by omega), if_neg (by omega), if_pos (by omega)]
  · change po (0 + 1 * t) (1 + 2 * j) = 6; unfold po; rw [if_neg (by omega), if_neg (by omega), if_neg (by omega), if_neg (by omega), if_neg (by omega), if_neg (by omega)]
theorem po_in (x y m : Nat) (h : po x y = m) : x = adX m + adDX m * ((x - adX m) / adDX m) ∧ y = adY m + adDY m * ((y - adY m) / adDY m) := by
  unfold po at h
  split at h
  · subst h; change x = 0 + 8 * ((x - 0) / 8) ∧ y = 0 + 8 * ((y - 0) / 8); omega
  split at h
  · subst h; change x = 4 + 8 * ((x - 4) / 8) ∧ y = 0 + 8 * ((y - 0) / 8); omega
  split at h
  · subst h; change x = 0 + 4 * ((x - 0) / 4) ∧ y = 4 + 8 * ((y - 4) / 8); omega
  split at h
  · subst h; change x = 2 + 4 * ((x - 2) / 4) ∧ y = 0 + 4 * ((y - 0) / 4); omega
  split at h
  · subst h; change x = 0 + 2 * ((x - 0) / 2) ∧ y = 2 + 4 * ((y - 2) / 4); omega
  split at h
  · subst h; change x = 1 + 2 * ((x - 1) / 2) ∧ y = 0 + 2 * ((y - 0) / 2); omega
  · subst h; change x = 0 + 1 * ((x - 0) / 1) ∧ y = 1 + 2 * ((y - 1) / 2); omega
theorem passL_mono (A B : Nat) {m n : Nat} (h : m ≤ n) : (passL A B m).length ≤ (passL A B n).length := by
  induction n with
  | zero => rw [show m = 0 by omega]; exact Nat.le_refl _
  | succ n ih =>
    by_cases e : m = n + 1
    · rw [e]; exact Nat.le_refl _
    · have := ih (by omega)
      simp only [passL, List.length_append]
      omega
theorem passL_full (A B m : Nat) (h : 0 < (pasv A B m).w ∧ 0 < (pasv A B m).h) : (passL A B (m + 1)).length = (passL A B m).length + 1 := by
  simp only [passL, if_pos h, List.length_append, List.length_singleton]
theorem passL_get (A B : Nat) : ∀ n i, i < (passL A B n).length → ∃ m, m < n ∧ (passL A B m).length = i ∧ 0 < (pasv A B m).w ∧ 0 < (pasv A B m).h ∧ (passL A B n)[i]? = some (pasv A B m)
  | 0, i, h => by simp [passL] at h
  | n + 1, i, h => by
    by_cases hi : i < (passL A B n).length
    · obtain ⟨m, h1, h2, h3, h4, h5⟩ := passL_get A B n i hi
      exact ⟨m, by omega, h2, h3, h4, by simp only [passL]; rw [List.getElem?_append_left hi]; exact h5⟩
    · by_cases hp : 0 < (pasv A B n).w ∧ 0 < (pasv A B n).h
      · have := passL_full A B n hp
        refine ⟨n, by omega, by omega, hp.1, hp.2, ?_⟩
        simp only [passL, if_pos hp]
        rw [List.getElem?_append_right (by omega), show i - (passL A B n).length = 0 by omega]
        rfl
      · simp only [passL, if_neg hp, List.append_nil] at h
        exact absurd h hi
/-- Which of the passes that are there a place is in. -/
def ix (A B x y : Nat) : Nat := (passL A B (po x y)).length
theorem ix_po {A B x y m : Nat} (hx : x < A) (hy : y < B) (hp : 0 < (pasv A B m).w ∧ 0 < (pasv A B m).h) (h : ix A B x y = (passL A B m).length) : po x y = m := by
  obtain ⟨e1, e2⟩ := po_in x y _ rfl
  have bd := ad_bd (po x y) (po_lt x y)
  have hq : 0 < (pasv A B (po x y)).w ∧ 0 < (pasv A B (po x y)).h := by
    have h1 := (cnt_iff (s := A) (j := (x - adX (po x y)) / adDX (po x y)) bd.1).2 (by omega)
    have h2 := (cnt_iff (s := B) (j := (y - adY (po x y)) / adDY (po x y)) bd.2.1).2 (by omega)
    exact ⟨Nat.lt_of_le_of_lt (Nat.zero_le _) h1, Nat.lt_of_le_of_lt (Nat.zero_le _) h2⟩
  unfold ix at h
  rcases Nat.lt_trichotomy (po x y) m with hl | he | hg
  · have h1 := passL_full A B _ hq
    have h2 := passL_mono A B (m := po x y + 1) (n := m) hl
    omega
  · exact he
  · have h1 := passL_full A B _ hp
    have h2 := passL_mono A B (m := m + 1) (n := po x y) hg
    omega
/-- Whether a place was had: by the passes ahead of i, or by i itself: its rows ahead of j, and of row j its columns ahead of t. -/
def vis (A B i j t m x y : Nat) : Bool := decide (x < A ∧ y < B ∧ (ix A B x y < i ∨ (ix A B x y = i ∧ ((y - adY m) / adDY m < j ∨ ((y - adY m) / adDY m = j ∧ (x - adX m) / adDX m < t)))))
theorem vis_nil (A B m x y : Nat) : vis A B 0 0 0 m x y = false := by
  unfold vis
  generalize (x - adX m) / adDX m = c
  generalize (y - adY m) / adDY m = r
  rw [decide_eq_false]; omega
theorem vis_any (A B i m m' x y : Nat) : vis A B i 0 0 m x y = vis A B i 0 0 m' x y := by
  unfold vis
  generalize (x - adX m) / adDX m = c
  generalize (y - adY m) / adDY m = r
  generalize (x - adX m') / adDX m' = c'
  generalize (y - adY m') / adDY m' = r'
  rw [decide_eq_decide]; omega
theorem vis_row {A B i j m x y : Nat} (hm : m < 7) (hi : (passL A B m).length = i) (hp : 0 < (pasv A B m).w ∧ 0 < (pasv A B m).h) : vis A B i j (pasv A B m).w m x y = vis A B i (j + 1) 0 m x y := by
  unfold vis
  rw [decide_eq_decide]
  refine and_congr_right fun hx => and_congr_right fun hy => or_congr_right (and_congr_right fun he => ?_)
  have hpo := ix_po hx hy hp (by omega)
  obtain ⟨e1, e2⟩ := po_in x y m hpo
  have bd := ad_bd m hm
  have h1 : (x - adX m) / adDX m < (pasv A B m).w := (cnt_iff (s := A) (j := (x - adX m) / adDX m) bd.1).2 (by omega)
  generalize (x - adX m) / adDX m = c at *
  generalize (y - adY m) / adDY m = r at *
  omega
theorem vis_pass {A B i m x y : Nat} (hm : m < 7) (hi : (passL A B m).length = i) (hp : 0 < (pasv A B m).w ∧ 0 < (pasv A B m).h) : vis A B i (pasv A B m).h 0 m x y = vis A B (i + 1) 0 0 m x y := by
  unfold vis
  rw [decide_eq_decide]
  refine and_congr_right fun hx => and_congr_right fun hy => ?_
  have h1 : ix A B x y = i → (y - adY m) / adDY m < (pasv A B m).h := fun he => by
    have hpo := ix_po hx hy hp (by omega)
    obtain ⟨e1, e2⟩ := po_in x y m hpo
    have bd := ad_bd m hm
    exact (cnt_iff (s := B) (j := (y - adY m) / adDY m) bd.2.1).2 (by omega)
  generalize (x - adX m) / adDX m = c at *
  generalize (y - adY m) / adDY m = r at *
  constructor
  · intro h; omega
  · intro h
    by_cases he : ix A B x y = i
    · have := h1 he; omega
    · omega
theorem at_div {f d t : Nat} (hd : 0 < d) : (f + d * t - f) / d = t := by
  rw [Nat.add_sub_cancel_left, Nat.mul_div_cancel_left _ hd]
theorem vis_new {A B i j t m : Nat} (hm : m < 7) (hi : (passL A B m).length = i) : vis A B i j t m (adX m + adDX m * t) (adY m + adDY m * j) = false := by
  have bd := ad_bd m hm
  unfold vis
  rw [decide_eq_false]
  unfold ix
  rw [po_of m hm t j, hi, at_div (by omega), at_div (by omega)]
  omega
theorem vis_step {A B i j t m x y : Nat} (hm : m < 7) (hi : (passL A B m).length = i) (hp : 0 < (pasv A B m).w ∧ 0 < (pasv A B m).h) (hX : adX m + adDX m * t < A) (hY : adY m + adDY m * j < B) :
    vis A B i j (t + 1) m x y = if x = adX m + adDX m * t ∧ y = adY m + adDY m * j then true else vis A B i j t m x y := by
  have bd := ad_bd m hm
  split
  · rename_i h
    obtain ⟨rfl, rfl⟩ := h
    unfold vis
    rw [decide_eq_true]
    unfold ix
    rw [po_of m hm t j, hi, at_div (by omega), at_div (by omega)]
    omega
  · rename_i h
    unfold vis
    rw [decide_eq_decide]
    refine and_congr_right fun hx => and_congr_right fun hy => or_congr_right (and_congr_right fun he => ?_)
    have hpo := ix_po hx hy hp (by omega)
    obtain ⟨e1, e2⟩ := po_in x y m hpo
    have h1 : ¬ ((y - adY m) / adDY m = j ∧ (x - adX m) / adDX m = t) := fun ⟨h1, h2⟩ => h ⟨by rw [← h2]; exact e1, by rw [← h1]; exact e2⟩
    generalize (x - adX m) / adDX m = c at *
    generalize (y - adY m) / adDY m = r at *
    omega
/-- How many places the first i passes have. -/
def sumT (L : List Pas) (i : Nat) : Nat := ((L.take i).map fun p => p.w * p.h).sum
theorem sumT_succ {L : List Pas} {i : Nat} {p : Pas} (h : L[i]? = some p) : sumT L (i + 1) = sumT L i + p.w * p.h := by
  unfold sumT
  rw [List.take_add_one, h]
  simp
theorem sum_all : ∀ A B : Fin 40, sumT (passL A.val B.val 7) 7 = A.val * B.val := by decide +kernel
theorem sum_whole {A B : Nat} (hA : A < 40) (hB : B < 40) : sumT (passL A B 7) (passL A B 7).length = A * B := by
  have h := sum_all ⟨A, hA⟩ ⟨B, hB⟩
  simp only at h
  rw [← h]
  unfold sumT
  rw [List.take_length, List.take_of_length_le (passL_len A B 7)]
theorem sum_le {A B : Nat} (hA : A < 40) (hB : B < 40) : ∀ i, sumT (passL A B 7) i ≤ 1600 * i
  | 0 => by simp [sumT]
  | i + 1 => by
    have ih := sum_le hA hB i
    by_cases h : i < (passL A B 7).length
    · obtain ⟨m, h1, h2, h3, h4, h5⟩ := passL_get A B 7 i h
      rw [sumT_succ h5]
      have bd := ad_bd m h1
      have hw : (pasv A B m).w ≤ 40 := Nat.le_trans (cnt_le bd.1) (by omega)
      have hh : (pasv A B m).h ≤ 40 := Nat.le_trans (cnt_le bd.2.1) (by omega)
      have := Nat.mul_le_mul hw hh
      omega
    · have e : sumT (passL A B 7) (i + 1) = sumT (passL A B 7) i := by
        unfold sumT
        rw [List.take_of_length_le (by omega), List.take_of_length_le (by omega)]
      omega
end Go.Proofs.YtciobjjhdeagkaaDoor
