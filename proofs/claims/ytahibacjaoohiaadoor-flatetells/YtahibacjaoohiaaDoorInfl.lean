/-
  Inflating, as plain functions of bits: what a block says, or why not. No Go text is walked here.
-/
import Derived.Test.YtahibacjaoohiaaDoorPure
namespace Go.Proofs.YtahibacjaoohiaaDoor

/-- Step by step till it is done, at most so many; d: where a step doesn't fall. -/
def loopN {S R : Type} (step : S → S ⊕ R) (μ : S → Nat) (d : R) : Nat → S → R
  | 0, _ => d
  | n + 1, s => match step s with
    | .inr r => r
    | .inl s' => if μ s' < μ s then loopN step μ d n s' else d
theorem loopN_enough {S R : Type} {step : S → S ⊕ R} {μ : S → Nat} {d : R} : ∀ {n m : Nat} {s : S}, μ s < n → μ s < m → loopN step μ d n s = loopN step μ d m s
  | 0, _, _, h, _ => by omega
  | _ + 1, 0, _, _, h => by omega
  | n + 1, m + 1, s, h1, h2 => by
    unfold loopN
    split
    · rfl
    · split
      · exact loopN_enough (by omega) (by omega)
      · rfl
/-- Step by step till it is done. -/
def loopv {S R : Type} (step : S → S ⊕ R) (μ : S → Nat) (d : R) (s : S) : R := loopN step μ d (μ s + 1) s
theorem loopv_done {S R : Type} {step : S → S ⊕ R} {μ : S → Nat} {d : R} {s : S} {r : R} (h : step s = .inr r) : loopv step μ d s = r := by
  unfold loopv loopN; rw [h]
theorem loopv_more {S R : Type} {step : S → S ⊕ R} {μ : S → Nat} {d : R} {s s' : S} (h : step s = .inl s') (hm : μ s' < μ s) : loopv step μ d s = loopv step μ d s' := by
  unfold loopv
  conv => lhs; unfold loopN
  rw [h]
  simp only [hm, if_true]
  exact loopN_enough hm (by omega)

def takeE (z : Nat → Nat) (lim p n : Nat) : Except Nat (Nat × Nat) := if p + n ≤ lim then .ok (takev z p n, p + n) else .error 3
/-- The last symbol that has a code. -/
def lastsym (L : Nat → Nat) : Nat → Nat
  | 0 => 0
  | k + 1 => if L k = 0 then lastsym L k else k
/-- The symbol whose code comes. -/
def symE (L : Nat → Nat) (N : Nat) (z : Nat → Nat) (lim p : Nat) : Except Nat (Nat × Nat) :=
  if some' L N = 0 then .error 2
  else if some' L N = 1 then (if p < lim then (if bit z p = 0 then .ok (lastsym L N, p + 1) else .error 2) else .error 3)
  else if (rdv L N (bit z) lim p).2.1 = true then .ok ((rdv L N (bit z) lim p).1, (rdv L N (bit z) lim p).2.2) else .error 3
def spreadE (z : Nat → Nat) (lim p k g : Nat) : Except Nat (Nat × Nat) :=
  if k < 2 * g then .ok (k, p) else if p + (k / g - 1) ≤ lim then .ok ((g + k % g) * 2 ^ (k / g - 1) + takev z p (k / g - 1), p + (k / g - 1)) else .error 3
def lengthE (z : Nat → Nat) (lim p s : Nat) : Except Nat (Nat × Nat) :=
  if 285 < s then .error 2 else if s = 285 then .ok (258, p) else
  match spreadE z lim p (s - 257) 4 with
  | .error e => .error e
  | .ok x => .ok (x.1 + 3, x.2)
def distE (D : Nat → Nat) (M : Nat) (z : Nat → Nat) (lim p : Nat) : Except Nat (Nat × Nat) :=
  match symE D M z lim p with
  | .error e => .error e
  | .ok x => if 29 < x.1 then .error 2 else
    match spreadE z lim x.2 x.1 2 with
    | .error e => .error e
    | .ok y => .ok (y.1 + 1, y.2)
/-- A copy, byte by byte. -/
def cpE (most back : Nat) : Nat → List Int → Except Nat (List Int)
  | 0, out => .ok out
  | n + 1, out => if most ≤ out.length then .error 4 else cpE most back n (out ++ [out.getD (out.length - back) 0])
def againE (D : Nat → Nat) (M : Nat) (z : Nat → Nat) (lim most s p : Nat) (out : List Int) : Except Nat (Nat × List Int) :=
  match lengthE z lim p s with
  | .error e => .error e
  | .ok n => match distE D M z lim n.2 with
    | .error e => .error e
    | .ok d => if out.length < d.1 then .error 2 else
      match cpE most d.1 n.1 out with
      | .error e => .error e
      | .ok o => .ok (d.2, o)
abbrev St := Nat × List Int
def codedS (L : Nat → Nat) (N : Nat) (D : Nat → Nat) (M : Nat) (z : Nat → Nat) (lim most : Nat) (st : St) : St ⊕ Except Nat St :=
  match symE L N z lim st.1 with
  | .error e => .inr (.error e)
  | .ok x => if x.1 = 256 then .inr (.ok (x.2, st.2)) else if x.1 < 256 then (if most ≤ st.2.length then .inr (.error 4) else .inl (x.2, st.2 ++ [(x.1 : Int)])) else
    match againE D M z lim most x.1 x.2 st.2 with
    | .error e => .inr (.error e)
    | .ok st' => .inl st'
def codedE (L : Nat → Nat) (N : Nat) (D : Nat → Nat) (M : Nat) (z : Nat → Nat) (lim most : Nat) (st : St) : Except Nat St := loopv (codedS L N D M z lim most) (fun st => lim - st.1) (.error 9) st
def st8E (z : Nat → Nat) (lim most : Nat) : Nat → Nat → List Int → Except Nat St
  | 0, p, out => .ok (p, out)
  | n + 1, p, out => if p + 8 ≤ lim then (if most ≤ out.length then .error 4 else st8E z lim most n (p + 8) (out ++ [((takev z p 8 : Nat) : Int)])) else .error 3
def up8 (p : Nat) : Nat := 8 * ((p + 7) / 8)
def storedE (z : Nat → Nat) (lim most p : Nat) (out : List Int) : Except Nat St :=
  if up8 p + 32 ≤ lim then (if takev z (up8 p) 16 + takev z (up8 p + 16) 16 = 65535 then st8E z lim most (takev z (up8 p) 16) (up8 p + 32) out else .error 2) else .error 3
/-- Which length a symbol stands for, and how many times. -/
def runE (z : Nat → Nat) (lim p s : Nat) (acc : List Int) : Except Nat (Int × Nat × Nat) :=
  if s < 16 then .ok ((s : Int), 1, p) else
  if s = 16 then (if acc.length = 0 then .error 2 else if p + 2 ≤ lim then .ok (acc.getD (acc.length - 1) 0, 3 + takev z p 2, p + 2) else .error 3) else
  if s = 18 then (if p + 7 ≤ lim then .ok (0, 11 + takev z p 7, p + 7) else .error 3) else
  if p + 3 ≤ lim then .ok (0, 3 + takev z p 3, p + 3) else .error 3
def lensS (A : Nat → Nat) (count : Nat) (z : Nat → Nat) (lim : Nat) (st : St) : St ⊕ Except Nat St :=
  if count ≤ st.2.length then .inr (.ok st) else
  match symE A 19 z lim st.1 with
  | .error e => .inr (.error e)
  | .ok x => match runE z lim x.2 x.1 st.2 with
    | .error e => .inr (.error e)
    | .ok y => if count - st.2.length < y.2.1 then .inr (.error 2) else .inl (y.2.2, st.2 ++ List.replicate y.2.1 y.1)
def lensE (A : Nat → Nat) (count : Nat) (z : Nat → Nat) (lim : Nat) (st : St) : Except Nat St := loopv (lensS A count z lim) (fun st => lim - st.1) (.error 9) st
/-- The order in which the lengths of the lengths' codes are told. -/
def ordL : List Nat := [16, 17, 18, 0, 8, 7, 9, 6, 10, 5, 11, 4, 12, 3, 13, 2, 14, 1, 15]
def ord (k : Nat) : Nat := ordL.getD k 0
def shL (z : Nat → Nat) (p : Nat) : Nat → Nat → Nat
  | 0, _ => 0
  | k + 1, i => if i = ord k then takev z (p + 3 * k) 3 else shL z p k i
structure Pr where
  L : Nat → Nat
  N : Nat
  D : Nat → Nat
  M : Nat
def nthL (acc : List Int) (k i : Nat) : Nat := (acc.getD (k + i) 0).toNat
/-- The codes that a block tells. -/
def pairE (acc : List Int) (hl hd : Nat) : Except Nat Pr :=
  if acc.getD 256 0 = 0 then .error 2 else if okc (nthL acc 0) hl = true then (if okc (nthL acc hl) hd = true then .ok ⟨nthL acc 0, hl, nthL acc hl, hd⟩ else .error 2) else .error 2
def ownE (z : Nat → Nat) (lim p : Nat) : Except Nat (Pr × Nat) :=
  if p + 14 ≤ lim then
    if 286 < takev z p 5 + 257 ∨ 30 < takev z (p + 5) 5 + 1 then .error 2 else
    if p + 14 + 3 * (takev z (p + 10) 4 + 4) ≤ lim then
      if okc (shL z (p + 14) (takev z (p + 10) 4 + 4)) 19 = true then
        match lensE (shL z (p + 14) (takev z (p + 10) 4 + 4)) (takev z p 5 + 257 + (takev z (p + 5) 5 + 1)) z lim (p + 14 + 3 * (takev z (p + 10) 4 + 4), []) with
        | .error e => .error e
        | .ok st => match pairE st.2 (takev z p 5 + 257) (takev z (p + 5) 5 + 1) with
          | .error e => .error e
          | .ok c => .ok (c, st.1)
      else .error 2
    else .error 3
  else .error 3
def fixL (i : Nat) : Nat := if i < 144 then 8 else if i < 256 then 9 else if i < 280 then 7 else if i < 288 then 8 else 5
def fixD (_ : Nat) : Nat := 5
def kindE (z : Nat → Nat) (lim most k p : Nat) (out : List Int) : Except Nat St :=
  if k = 0 then storedE z lim most p out else
  if k = 1 then codedE fixL 288 fixD 32 z lim most (p, out) else
  if k = 2 then (match ownE z lim p with
    | .error e => .error e
    | .ok x => codedE x.1.L x.1.N x.1.D x.1.M z lim most (x.2, out)) else .error 2
def blockE (z : Nat → Nat) (lim most : Nat) (st : St) : Except Nat (Bool × St) :=
  if st.1 + 3 ≤ lim then (match kindE z lim most (takev z (st.1 + 1) 2) (st.1 + 3) st.2 with
    | .error e => .error e
    | .ok st' => .ok (bit z st.1 == 1, st')) else .error 3
def inflS (z : Nat → Nat) (lim most : Nat) (st : St) : St ⊕ Except Nat St :=
  match blockE z lim most st with
  | .error e => .inr (.error e)
  | .ok x => if x.1 = true then .inr (.ok x.2) else .inl x.2
def blocksE (z : Nat → Nat) (lim most : Nat) (st : St) : Except Nat St := loopv (inflS z lim most) (fun st => lim - st.1) (.error 9) st
/-- What Inflate answers of len bytes z: the place and what was said, or why not. -/
def inflE (z : Nat → Nat) (len most : Nat) : Except Nat St := blocksE z (8 * len) most (0, [])

theorem rd_step (L : Nat → Nat) (N : Nat) (b : Nat → Nat) (lim : Nat) : ∀ f n c p, (rd L N b lim f n c p).2.1 = true → p < (rd L N b lim f n c p).2.2 ∧ (rd L N b lim f n c p).2.2 ≤ lim
  | 0, n, c, p, h => by simp [rd] at h
  | f + 1, n, c, p, h => by
    unfold rd at h ⊢
    by_cases hp : p < lim
    · rw [if_pos hp] at h ⊢
      by_cases hc : 2 * c + b p < first (cn L N) (n + 1) + cn L N (n + 1)
      · rw [if_pos hc] at h ⊢; exact ⟨by simp, by simp; omega⟩
      · rw [if_neg hc] at h ⊢
        have := rd_step L N b lim f (n + 1) (2 * c + b p) (p + 1) h
        exact ⟨by omega, this.2⟩
    · rw [if_neg hp] at h; simp at h
theorem rd_end (L : Nat → Nat) (N : Nat) (b : Nat → Nat) (lim : Nat) : ∀ f n c p, p ≤ lim → (rd L N b lim f n c p).2.2 ≤ lim
  | 0, n, c, p, h => by simpa [rd] using h
  | f + 1, n, c, p, h => by
    unfold rd
    split
    · split
      · simp; omega
      · exact rd_end L N b lim f (n + 1) _ (p + 1) (by omega)
    · exact h
theorem sym_lt (L : Nat → Nat) (n r : Nat) : ∀ N, sym L n r N ≤ N
  | 0 => Nat.le_refl _
  | N + 1 => by unfold sym; split; omega; have := sym_lt L n r N; omega
theorem sym_small (L : Nat → Nat) (n r : Nat) : ∀ N, 0 < N → sym L n r N < N
  | 0, h => by omega
  | N + 1, _ => by unfold sym; split; omega; have := sym_lt L n r N; omega
theorem rd_small (L : Nat → Nat) (N : Nat) (b : Nat → Nat) (lim : Nat) (hN : 0 < N) : ∀ f n c p, (rd L N b lim f n c p).1 < N
  | 0, n, c, p => by simpa [rd] using hN
  | f + 1, n, c, p => by
    unfold rd
    split
    · split
      · exact sym_small _ _ _ _ hN
      · exact rd_small L N b lim hN f _ _ _
    · exact hN
theorem lastsym_lt (L : Nat → Nat) : ∀ N, 0 < N → lastsym L N < N
  | 0, h => by omega
  | N + 1, _ => by
    unfold lastsym
    split
    · by_cases h : 0 < N
      · have := lastsym_lt L N h; omega
      · have : N = 0 := by omega
        subst this; simp [lastsym]
    · omega
theorem symE_ok {L : Nat → Nat} {N : Nat} {z : Nat → Nat} {lim p : Nat} {x : Nat × Nat} (h : symE L N z lim p = .ok x) : p < x.2 ∧ x.2 ≤ lim ∧ x.1 < N := by
  unfold symE at h
  have hN : some' L N ≠ 0 → 0 < N := fun hs => by have := some_le L N; omega
  split at h
  · simp at h
  · rename_i h0
    split at h
    · split at h
      · split at h
        · simp at h; subst h
          exact ⟨by simp, by simp; omega, lastsym_lt L N (hN h0)⟩
        · simp at h
      · simp at h
    · split at h
      · rename_i h2
        simp at h; subst h
        have := rd_step L N (bit z) lim 15 0 0 p h2
        exact ⟨this.1, this.2, rd_small L N (bit z) lim (hN h0) 15 0 0 p⟩
      · simp at h
theorem symE_err {L : Nat → Nat} {N : Nat} {z : Nat → Nat} {lim p e : Nat} (h : symE L N z lim p = .error e) : e = 2 ∨ e = 3 := by
  unfold symE at h
  split at h
  · simp at h; omega
  · split at h
    · split at h
      · split at h <;> simp at h; omega
      · simp at h; omega
    · split at h <;> simp at h; omega
theorem spreadE_ok {z : Nat → Nat} {lim p k g : Nat} {x : Nat × Nat} (h : spreadE z lim p k g = .ok x) (hp : p ≤ lim) : p ≤ x.2 ∧ x.2 ≤ lim := by
  unfold spreadE at h
  split at h
  · simp at h; subst h; exact ⟨Nat.le_refl _, hp⟩
  · split at h
    · simp at h; subst h; exact ⟨by simp, by simp; omega⟩
    · simp at h
theorem spreadE_err {z : Nat → Nat} {lim p k g e : Nat} (h : spreadE z lim p k g = .error e) : e = 3 := by
  unfold spreadE at h
  split at h
  · simp at h
  · split at h <;> simp at h; omega
theorem pow_le_13 {k : Nat} (h : k ≤ 13) : 2 ^ k ≤ 8192 := by
  have : 2 ^ k ≤ 2 ^ 13 := Nat.pow_le_pow_right (by omega) h
  omega
theorem spreadE_small {z : Nat → Nat} {lim p k g : Nat} {x : Nat × Nat} (h : spreadE z lim p k g = .ok x) (hg : g ≤ 4) (hk : k ≤ 29) (h0 : 2 ≤ g) : x.1 ≤ 65536 := by
  unfold spreadE at h
  split at h
  · simp at h; subst h; simp; omega
  · split at h
    · simp at h; subst h
      have hw : k / g - 1 ≤ 13 := by
        have : k / g ≤ k / 2 := Nat.div_le_div_left h0 (by omega)
        omega
      have h1 := pow_le_13 hw
      have h2 := takev_lt z p (k / g - 1)
      have h3 : k % g < g := Nat.mod_lt _ (by omega)
      have h4 : (g + k % g) * 2 ^ (k / g - 1) ≤ 7 * 8192 := Nat.mul_le_mul (by omega) h1
      simp; omega
    · simp at h
theorem lengthE_ok {z : Nat → Nat} {lim p s : Nat} {x : Nat × Nat} (h : lengthE z lim p s = .ok x) (hp : p ≤ lim) : p ≤ x.2 ∧ x.2 ≤ lim ∧ x.1 ≤ 70000 := by
  unfold lengthE at h
  split at h
  · simp at h
  · split at h
    · simp at h; subst h; exact ⟨Nat.le_refl _, hp, by simp⟩
    · cases e : spreadE z lim p (s - 257) 4 with
      | error e => rw [e] at h; simp at h
      | ok y =>
        rw [e] at h; simp at h; subst h
        have := spreadE_ok e hp
        have := spreadE_small e (by omega) (by omega) (by omega)
        exact ⟨by simp; omega, by simp; omega, by simp; omega⟩
theorem distE_ok {D : Nat → Nat} {M : Nat} {z : Nat → Nat} {lim p : Nat} {x : Nat × Nat} (h : distE D M z lim p = .ok x) : p ≤ x.2 ∧ x.2 ≤ lim ∧ 0 < x.1 ∧ x.1 ≤ 70000 := by
  unfold distE at h
  cases e : symE D M z lim p with
  | error e => rw [e] at h; simp at h
  | ok y =>
    rw [e] at h
    simp only at h
    split at h
    · simp at h
    · have h1 := symE_ok e
      cases e2 : spreadE z lim y.2 y.1 2 with
      | error e => rw [e2] at h; simp at h
      | ok u =>
        rw [e2] at h; simp at h; subst h
        have h2 := spreadE_ok e2 h1.2.1
        have h3 := spreadE_small e2 (by omega) (by omega) (by omega)
        exact ⟨by simp; omega, by simp; omega, by simp, by simp; omega⟩
theorem cpE_ok {most back : Nat} : ∀ {n : Nat} {out o : List Int}, cpE most back n out = .ok o → out.length ≤ o.length ∧ (out.length ≤ most → o.length ≤ most)
  | 0, out, o, h => by simp [cpE] at h; subst h; exact ⟨Nat.le_refl _, id⟩
  | n + 1, out, o, h => by
    unfold cpE at h
    split at h
    · simp at h
    · have := cpE_ok h
      simp at this
      exact ⟨by omega, fun _ => this.2 (by omega)⟩
theorem againE_ok {D : Nat → Nat} {M : Nat} {z : Nat → Nat} {lim most s p : Nat} {out : List Int} {st : St} (h : againE D M z lim most s p out = .ok st) (hp : p ≤ lim) : p ≤ st.1 ∧ st.1 ≤ lim ∧ (out.length ≤ most → st.2.length ≤ most) := by
  unfold againE at h
  cases e : lengthE z lim p s with
  | error e => rw [e] at h; simp at h
  | ok n =>
    rw [e] at h
    have h1 := lengthE_ok e hp
    simp only at h
    cases e2 : distE D M z lim n.2 with
    | error e => rw [e2] at h; simp at h
    | ok d =>
      rw [e2] at h
      have h2 := distE_ok e2
      simp only at h
      split at h
      · simp at h
      · cases e3 : cpE most d.1 n.1 out with
        | error e => rw [e3] at h; simp at h
        | ok o =>
          rw [e3] at h; simp at h; subst h
          have := cpE_ok e3
          exact ⟨by simp; omega, by simp; omega, this.2⟩
theorem codedS_more {L : Nat → Nat} {N : Nat} {D : Nat → Nat} {M : Nat} {z : Nat → Nat} {lim most : Nat} {st st' : St} (h : codedS L N D M z lim most st = .inl st') : st.1 < st'.1 ∧ st'.1 ≤ lim ∧ (st.2.length ≤ most → st'.2.length ≤ most) := by
  unfold codedS at h
  cases e : symE L N z lim st.1 with
  | error e => rw [e] at h; simp at h
  | ok x =>
    rw [e] at h
    have h1 := symE_ok e
    simp only at h
    split at h
    · simp at h
    · split at h
      · split at h
        · simp at h
        · simp at h; subst h; exact ⟨h1.1, h1.2.1, fun _ => by simp; omega⟩
      · cases e2 : againE D M z lim most x.1 x.2 st.2 with
        | error e => rw [e2] at h; simp at h
        | ok st2 =>
          rw [e2] at h; simp at h; subst h
          have := againE_ok e2 h1.2.1
          exact ⟨by omega, this.2.1, this.2.2⟩
theorem codedE_done {L : Nat → Nat} {N : Nat} {D : Nat → Nat} {M : Nat} {z : Nat → Nat} {lim most : Nat} {st : St} {r : Except Nat St} (h : codedS L N D M z lim most st = .inr r) : codedE L N D M z lim most st = r := loopv_done h
theorem codedE_more {L : Nat → Nat} {N : Nat} {D : Nat → Nat} {M : Nat} {z : Nat → Nat} {lim most : Nat} {st st' : St} (h : codedS L N D M z lim most st = .inl st') : codedE L N D M z lim most st = codedE L N D M z lim most st' :=
  loopv_more h (by have := codedS_more h; show lim - st'.1 < lim - st.1; omega)
theorem runE_ok {z : Nat → Nat} {lim p s : Nat} {acc : List Int} {y : Int × Nat × Nat} (h : runE z lim p s acc = .ok y) (hp : p ≤ lim) (ha : ∀ x ∈ acc, 0 ≤ x ∧ x ≤ 15) : p ≤ y.2.2 ∧ y.2.2 ≤ lim ∧ 0 ≤ y.1 ∧ y.1 ≤ 15 ∧ 0 < y.2.1 ∧ y.2.1 ≤ 200 := by
  unfold runE at h
  have g : ∀ k, 0 ≤ acc.getD k 0 ∧ acc.getD k 0 ≤ 15 := fun k => by
    rw [List.getD_eq_getElem?_getD]
    cases e : acc[k]? with
    | none => simp
    | some x => simpa using ha x (List.mem_of_getElem? e)
  split at h
  · simp at h; subst h; exact ⟨Nat.le_refl _, hp, by simp, by simp; omega, by simp, by simp⟩
  · split at h
    · split at h
      · simp at h
      · split at h
        · simp at h; subst h
          have := takev_lt z p 2
          have := g (acc.length - 1)
          exact ⟨by simp, by simp; omega, this.1, this.2, by simp; omega, by simp; omega⟩
        · simp at h
    · split at h
      · split at h
        · simp at h; subst h
          have := takev_lt z p 7
          exact ⟨by simp, by simp; omega, by simp, by simp, by simp; omega, by simp; omega⟩
        · simp at h
      · split at h
        · simp at h; subst h
          have := takev_lt z p 3
          exact ⟨by simp, by simp; omega, by simp, by simp, by simp; omega, by simp; omega⟩
        · simp at h
theorem lensS_more {A : Nat → Nat} {count : Nat} {z : Nat → Nat} {lim : Nat} {st st' : St} (h : lensS A count z lim st = .inl st') (ha : ∀ x ∈ st.2, 0 ≤ x ∧ x ≤ 15) : st.1 < st'.1 ∧ st'.1 ≤ lim ∧ (∀ x ∈ st'.2, 0 ≤ x ∧ x ≤ 15) ∧ st'.2.length ≤ count := by
  unfold lensS at h
  split at h
  · simp at h
  · rename_i hc
    cases e : symE A 19 z lim st.1 with
    | error e => rw [e] at h; simp at h
    | ok x =>
      rw [e] at h
      have h1 := symE_ok e
      simp only at h
      cases e2 : runE z lim x.2 x.1 st.2 with
      | error e => rw [e2] at h; simp at h
      | ok y =>
        rw [e2] at h
        have h2 := runE_ok e2 h1.2.1 ha
        simp only at h
        split at h
        · simp at h
        · simp at h; subst h
          refine ⟨by simp; omega, by simp; omega, fun u hu => ?_, by simp; omega⟩
          simp at hu
          rcases hu with hu | hu
          · exact ha u hu
          · omega
theorem lensE_done {A : Nat → Nat} {count : Nat} {z : Nat → Nat} {lim : Nat} {st : St} {r : Except Nat St} (h : lensS A count z lim st = .inr r) : lensE A count z lim st = r := loopv_done h
theorem lensE_more {A : Nat → Nat} {count : Nat} {z : Nat → Nat} {lim : Nat} {st st' : St} (h : lensS A count z lim st = .inl st') (ha : ∀ x ∈ st.2, 0 ≤ x ∧ x ≤ 15) : lensE A count z lim st = lensE A count z lim st' :=
  loopv_more h (by have := lensS_more h ha; show lim - st'.1 < lim - st.1; omega)
theorem shL_le (z : Nat → Nat) (p : Nat) : ∀ k i, shL z p k i ≤ 7
  | 0, i => by simp [shL]
  | k + 1, i => by
    unfold shL; split
    · have := takev_lt z (p + 3 * k) 3; omega
    · exact shL_le z p k i
theorem ord_lt (k : Nat) (h : k < 19) : ord k < 19 := by
  have : ∀ k : Fin 19, ord k.val < 19 := by decide
  exact this ⟨k, h⟩
end Go.Proofs.YtahibacjaoohiaaDoor
