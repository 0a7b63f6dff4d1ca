/-
  Inflating goes forward: each block takes bits, and none that isn't there. No Go text is walked here.
-/
import Derived.Test.YtahibacjaoohiaaDoorInfl
namespace Go.Proofs.YtahibacjaoohiaaDoor

theorem loopN_inv {S R : Type} {step : S → S ⊕ R} {μ : S → Nat} {d : R} (P : S → R → Prop) (hdone : ∀ s r, step s = .inr r → P s r) (hmore : ∀ s s' r, step s = .inl s' → P s' r → P s r) (hd : ∀ s, P s d) : ∀ (n : Nat) (s : S), P s (loopN step μ d n s)
  | 0, s => hd s
  | n + 1, s => by
    unfold loopN
    split
    · rename_i r h; exact hdone s r h
    · rename_i s' h
      split
      · exact hmore s s' _ h (loopN_inv P hdone hmore hd n s')
      · exact hd s
theorem loopv_inv {S R : Type} {step : S → S ⊕ R} {μ : S → Nat} {d : R} (P : S → R → Prop) (hdone : ∀ s r, step s = .inr r → P s r) (hmore : ∀ s s' r, step s = .inl s' → P s' r → P s r) (hd : ∀ s, P s d) (s : S) : P s (loopv step μ d s) := loopN_inv P hdone hmore hd _ s

theorem codedE_ok {L : Nat → Nat} {N : Nat} {D : Nat → Nat} {M : Nat} {z : Nat → Nat} {lim most : Nat} {st st' : St} (h : codedE L N D M z lim most st = .ok st') : st.1 ≤ st'.1 ∧ st'.1 ≤ lim := by
  have := loopv_inv (step := codedS L N D M z lim most) (μ := fun st => lim - st.1) (d := .error 9) (fun s r => ∀ x, r = .ok x → s.1 ≤ x.1 ∧ x.1 ≤ lim)
    (fun s r hs x hx => by
      subst hx
      unfold codedS at hs
      cases e : symE L N z lim s.1 with
      | error e => rw [e] at hs; simp at hs
      | ok y =>
        rw [e] at hs
        have h1 := symE_ok e
        simp only at hs
        split at hs
        · simp at hs; subst hs; exact ⟨by simp; omega, h1.2.1⟩
        · split at hs
          · split at hs <;> simp at hs
          · cases e2 : againE D M z lim most y.1 y.2 s.2 with
            | error e => rw [e2] at hs; simp at hs
            | ok u => rw [e2] at hs; simp at hs)
    (fun s s' r hs hr x hx => by
      have h1 := codedS_more hs
      have h2 := hr x hx
      exact ⟨by omega, h2.2⟩)
    (fun s x hx => by simp at hx) st
  exact this st' h
theorem st8E_ok {z : Nat → Nat} {lim most : Nat} : ∀ {n p : Nat} {out : List Int} {st : St}, st8E z lim most n p out = .ok st → p ≤ lim → p ≤ st.1 ∧ st.1 ≤ lim
  | 0, p, out, st, h, hp => by simp [st8E] at h; subst h; exact ⟨Nat.le_refl _, hp⟩
  | n + 1, p, out, st, h, hp => by
    unfold st8E at h
    split at h
    · split at h
      · simp at h
      · have := st8E_ok h (by omega)
        exact ⟨by omega, this.2⟩
    · simp at h
theorem storedE_ok {z : Nat → Nat} {lim most p : Nat} {out : List Int} {st : St} (h : storedE z lim most p out = .ok st) : p ≤ st.1 ∧ st.1 ≤ lim := by
  unfold storedE at h
  split at h
  · split at h
    · have := st8E_ok h (by omega)
      exact ⟨by have : p ≤ up8 p := by unfold up8; omega
                omega, this.2⟩
    · simp at h
  · simp at h
theorem lensE_ok {A : Nat → Nat} {count : Nat} {z : Nat → Nat} {lim : Nat} {st st' : St} (h : lensE A count z lim st = .ok st') (hl : st.1 ≤ lim) (h15 : ∀ x ∈ st.2, 0 ≤ x ∧ x ≤ 15) : st.1 ≤ st'.1 ∧ st'.1 ≤ lim := by
  have := loopv_inv (step := lensS A count z lim) (μ := fun st => lim - st.1) (d := .error 9) (fun s r => s.1 ≤ lim → (∀ x ∈ s.2, 0 ≤ x ∧ x ≤ 15) → ∀ x, r = .ok x → s.1 ≤ x.1 ∧ x.1 ≤ lim)
    (fun s r hs hl' _ x hx => by
      subst hx
      unfold lensS at hs
      split at hs
      · simp at hs; subst hs; exact ⟨Nat.le_refl _, hl'⟩
      · cases e : symE A 19 z lim s.1 with
        | error e => rw [e] at hs; simp at hs
        | ok y =>
          rw [e] at hs
          simp only at hs
          cases e2 : runE z lim y.2 y.1 s.2 with
          | error e => rw [e2] at hs; simp at hs
          | ok u =>
            rw [e2] at hs
            simp only at hs
            split at hs <;> simp at hs)
    (fun s s' r hs hr hl' h15' x hx => by
      have h1 := lensS_more hs h15'
      have h2 := hr h1.2.1 h1.2.2.1 x hx
      exact ⟨by omega, h2.2⟩)
    (fun s _ _ x hx => by simp at hx) st
  exact this hl h15 st' h
theorem ownE_ok {z : Nat → Nat} {lim p : Nat} {x : Pr × Nat} (h : ownE z lim p = .ok x) : p ≤ x.2 ∧ x.2 ≤ lim := by
  unfold ownE at h
  split at h
  · split at h
    · simp at h
    · split at h
      · split at h
        · rename_i h1 _ h2 _
          cases e : lensE (shL z (p + 14) (takev z (p + 10) 4 + 4)) (takev z p 5 + 257 + (takev z (p + 5) 5 + 1)) z lim (p + 14 + 3 * (takev z (p + 10) 4 + 4), []) with
          | error e => rw [e] at h; simp at h
          | ok st =>
            rw [e] at h
            have h3 := lensE_ok e h2 (fun y hy => by simp at hy)
            simp only at h h3
            cases e2 : pairE st.2 (takev z p 5 + 257) (takev z (p + 5) 5 + 1) with
            | error e => rw [e2] at h; simp at h
            | ok c => rw [e2] at h; simp at h; subst h; exact ⟨by simp; omega, h3.2⟩
        · simp at h
      · simp at h
  · simp at h
theorem kindE_ok {z : Nat → Nat} {lim most k p : Nat} {out : List Int} {st : St} (h : kindE z lim most k p out = .ok st) : p ≤ st.1 ∧ st.1 ≤ lim := by
  unfold kindE at h
  split at h
  · exact storedE_ok h
  · split at h
    · exact codedE_ok h
    · split at h
      · cases e : ownE z lim p with
        | error e => rw [e] at h; simp at h
        | ok x =>
          rw [e] at h
          have h1 := ownE_ok e
          have h2 := codedE_ok h
          simp only at h2
          exact ⟨by omega, h2.2⟩
      · simp at h
theorem blockE_ok {z : Nat → Nat} {lim most : Nat} {st : St} {x : Bool × St} (h : blockE z lim most st = .ok x) : st.1 < x.2.1 ∧ x.2.1 ≤ lim := by
  unfold blockE at h
  split at h
  · cases e : kindE z lim most (takev z (st.1 + 1) 2) (st.1 + 3) st.2 with
    | error e => rw [e] at h; simp at h
    | ok y =>
      rw [e] at h; simp at h; subst h
      have := kindE_ok e
      exact ⟨by simp; omega, this.2⟩
  · simp at h
theorem blocksE_err {z : Nat → Nat} {lim most : Nat} {st : St} {k : Nat} (h : blockE z lim most st = .error k) : blocksE z lim most st = .error k := loopv_done (by unfold inflS; rw [h])
theorem blocksE_last {z : Nat → Nat} {lim most : Nat} {st st' : St} (h : blockE z lim most st = .ok (true, st')) : blocksE z lim most st = .ok st' := loopv_done (by unfold inflS; rw [h]; simp)
theorem blocksE_more {z : Nat → Nat} {lim most : Nat} {st st' : St} (h : blockE z lim most st = .ok (false, st')) : blocksE z lim most st = blocksE z lim most st' :=
  loopv_more (by unfold inflS; rw [h]; simp) (by have := blockE_ok h; simp only at this; show lim - st'.1 < lim - st.1; omega)
end Go.Proofs.YtahibacjaoohiaaDoor
