/-
  Streams that are laid down by the fixed codes, as plain functions: what is laid is inflated to what it says. No Go text is walked here.
-/
import Derived.Test.YtahibacjaoohiaaDoorProg8
import Derived.Test.YtahibacjaoohiaaDoorPen2
namespace Go.Proofs.YtahibacjaoohiaaDoor

/-- Within a block of fixed codes that isn't the last one. -/
def midE (z : Nat → Nat) (lim most : Nat) (st : St) : Except Nat St := match codedE fixL 288 fixD 32 z lim most st with
  | .error e => .error e
  | .ok st' => blocksE z lim most st'
/-- The bits so far. -/
def Agree (z : Nat → Nat) (bs : List Int) (at' : Nat) : Prop := ∀ p, p < at' → bit z p = bit (zb bs) p
theorem Agree.back {z : Nat → Nat} {bs bs' : List Int} {at' at2 : Nat} (h : Agree z bs' at2) (hl : at' ≤ at2) (ho : ∀ p, p < at' → bit (zb bs') p = bit (zb bs) p) : Agree z bs at' := fun p hp => by rw [h p (by omega), ho p hp]
theorem takev_of {z : Nat → Nat} {p x : Nat} : ∀ {n : Nat}, (∀ k, k < n → bit z (p + k) = x / 2 ^ k % 2) → takev z p n = x % 2 ^ n
  | 0, _ => by simp [takev]; omega
  | n + 1, h => by
    simp only [takev]
    rw [takev_of (n := n) (fun k hk => h k (by omega)), h n (by omega), Nat.pow_succ, Nat.mod_mul]
    rw [Nat.mul_comm]
theorem fix_each (i : Nat) (_ : i < 288) : fixL i ≤ 15 := by have := fixL_le i; omega
theorem fix_okc : okc fixL 288 = true := by decide +kernel
theorem fixD_okc : okc fixD 32 = true := by decide +kernel
theorem fixL_pos (s : Nat) : 0 < fixL s := by unfold fixL; split; omega; split; omega; split; omega; split <;> omega
theorem fixD_some : some' fixD 32 = 32 := by decide +kernel
theorem fixD_code (d : Nat) (h : d < 32) : codev fixD 32 d = d := by
  have : ∀ d : Fin 32, codev fixD 32 d.val = d.val := by decide +kernel
  exact this ⟨d, h⟩
/-- A symbol's fixed code lies at p. -/
def SegF (z : Nat → Nat) (p s : Nat) : Prop := ∀ k, k < fixL s → bit z (p + k) = codev fixL 288 s / 2 ^ (fixL s - 1 - k) % 2
theorem sym_fix {z : Nat → Nat} {lim p s : Nat} (hs : s < 288) (h : SegF z p s) (hl : p + fixL s ≤ lim) : symE fixL 288 z lim p = .ok (s, p + fixL s) := by
  have hr := rdv_back (L := fixL) (N := 288) (b := bit z) hs (fixL_pos s) hl (fix_each s hs) h (code_bits hs fix_each fix_okc)
  unfold symE
  rw [fix_some, if_neg (by omega), if_neg (by omega), hr, if_pos rfl]
theorem sym_dist {z : Nat → Nat} {lim p d : Nat} (hd : d < 32) (h : ∀ k, k < 5 → bit z (p + k) = d / 2 ^ (5 - 1 - k) % 2) (hl : p + 5 ≤ lim) : symE fixD 32 z lim p = .ok (d, p + 5) := by
  have hc : codev fixD 32 d < 2 ^ 5 := by rw [fixD_code d hd]; omega
  have hr := rdv_back (L := fixD) (N := 32) (b := bit z) (lim := lim) (p := p) hd (by unfold fixD; omega) hl (by unfold fixD; omega) (fun k hk => by rw [fixD_code d hd]; exact h k hk) hc
  unfold symE
  rw [fixD_some, if_neg (by omega), if_neg (by omega), hr, if_pos rfl]
  rfl

/-- A header: another block of fixed codes, not the last. -/
theorem hdr_mid {z : Nat → Nat} {lim most p : Nat} {out : List Int} (h : ∀ k, k < 3 → bit z (p + k) = 2 / 2 ^ k % 2) (hl : p + 3 ≤ lim) : blocksE z lim most (p, out) = midE z lim most (p + 3, out) := by
  have b0 : bit z p = 0 := h 0 (by omega)
  have b1 : bit z (p + 1) = 1 := h 1 (by omega)
  have b2 : bit z (p + 2) = 0 := h 2 (by omega)
  have hk : takev z (p + 1) 2 = 1 := by
    show 0 + bit z (p + 1 + 0) * 2 ^ 0 + bit z (p + 1 + 1) * 2 ^ 1 = 1
    rw [Nat.add_zero, show p + 1 + 1 = p + 2 by omega, b1, b2]
  have hb : blockE z lim most (p, out) = match codedE fixL 288 fixD 32 z lim most (p + 3, out) with
      | .error e => .error e
      | .ok st' => .ok (false, st') := by
    unfold blockE
    simp only
    rw [if_pos hl, hk, b0]
    unfold kindE
    rw [if_neg (by omega), if_pos rfl]
    generalize codedE fixL 288 fixD 32 z lim most (p + 3, out) = E
    cases E <;> rfl
  unfold midE
  cases e : codedE fixL 288 fixD 32 z lim most (p + 3, out) with
  | error k => rw [e] at hb; exact blocksE_err hb
  | ok st => rw [e] at hb; exact blocksE_more hb
/-- A byte. -/
theorem mid_lit {z : Nat → Nat} {lim most p c : Nat} {out : List Int} (hc : c < 256) (h : SegF z p c) (hl : p + fixL c ≤ lim) (hm : out.length < most) : midE z lim most (p, out) = midE z lim most (p + fixL c, out ++ [(c : Int)]) := by
  unfold midE
  rw [codedE_more (st' := (p + fixL c, out ++ [(c : Int)])) (by unfold codedS; simp only; rw [sym_fix (by omega) h hl]; simp only; rw [if_neg (by omega), if_pos hc, if_neg (by omega)])]
theorem mid_lit_full {z : Nat → Nat} {lim most p c : Nat} {out : List Int} (hc : c < 256) (h : SegF z p c) (hl : p + fixL c ≤ lim) (hm : most ≤ out.length) : midE z lim most (p, out) = .error 4 := by
  unfold midE
  rw [codedE_done (r := .error 4) (by unfold codedS; simp only; rw [sym_fix (by omega) h hl]; simp only; rw [if_neg (by omega), if_pos hc, if_pos hm])]
/-- The end of a block. -/
theorem mid_end {z : Nat → Nat} {lim most p : Nat} {out : List Int} (h : SegF z p 256) (hl : p + 7 ≤ lim) : midE z lim most (p, out) = blocksE z lim most (p + 7, out) := by
  have e : fixL 256 = 7 := by decide
  unfold midE
  rw [codedE_done (r := .ok (p + 7, out)) (by unfold codedS; simp only; rw [sym_fix (by omega) h (by rw [e]; exact hl), e]; simp)]
/-- The last block, with nothing in it. -/
theorem last_end {z : Nat → Nat} {lim most p : Nat} {out : List Int} (h : ∀ k, k < 3 → bit z (p + k) = 3 / 2 ^ k % 2) (h2 : SegF z (p + 3) 256) (hl : p + 10 ≤ lim) : blocksE z lim most (p, out) = .ok (p + 10, out) := by
  have b0 : bit z p = 1 := h 0 (by omega)
  have b1 : bit z (p + 1) = 1 := h 1 (by omega)
  have b2 : bit z (p + 2) = 0 := h 2 (by omega)
  have hk : takev z (p + 1) 2 = 1 := by
    show 0 + bit z (p + 1 + 0) * 2 ^ 0 + bit z (p + 1 + 1) * 2 ^ 1 = 1
    rw [Nat.add_zero, show p + 1 + 1 = p + 2 by omega, b1, b2]
  have e : fixL 256 = 7 := by decide
  have hc : codedE fixL 288 fixD 32 z lim most (p + 3, out) = .ok (p + 10, out) := codedE_done (by unfold codedS; simp only; rw [sym_fix (by omega) h2 (by rw [e]; omega), e]; simp)
  refine blocksE_last ?_
  unfold blockE
  simp only
  rw [if_pos (by omega), hk, b0]
  unfold kindE
  rw [if_neg (by omega), if_pos rfl, hc]
  rfl
/-- How long, and how far, by counting up. -/
def sumL : Nat → Nat
  | 0 => 3
  | k + 1 => sumL k + 2 ^ morev (257 + k)
def sumD : Nat → Nat
  | 0 => 1
  | k + 1 => sumD k + 2 ^ farv k
theorem sumL_is (k : Nat) (h : k < 28) : (if k < 8 then k + 3 else (4 + k % 4) * 2 ^ (k / 4 - 1) + 3) = sumL k := by
  have : ∀ k : Fin 28, (if k.val < 8 then k.val + 3 else (4 + k.val % 4) * 2 ^ (k.val / 4 - 1) + 3) = sumL k.val := by decide +kernel
  exact this ⟨k, h⟩
theorem sumD_is (k : Nat) (h : k < 30) : (if k < 4 then k + 1 else (2 + k % 2) * 2 ^ (k / 2 - 1) + 1) = sumD k := by
  have : ∀ k : Fin 30, (if k.val < 4 then k.val + 1 else (2 + k.val % 2) * 2 ^ (k.val / 2 - 1) + 1) = sumD k.val := by decide +kernel
  exact this ⟨k, h⟩
theorem sumL_le (k : Nat) (h : k ≤ 28) : sumL k ≤ 300 := by
  have : ∀ k : Fin 29, sumL k.val ≤ 300 := by decide +kernel
  exact this ⟨k, by omega⟩
theorem sumD_le (k : Nat) (h : k ≤ 12) : sumD k ≤ 1000 := by
  have : ∀ k : Fin 13, sumD k.val ≤ 1000 := by decide +kernel
  exact this ⟨k, by omega⟩
theorem len_fix {z : Nat → Nat} {lim p s : Nat} (h1 : 257 ≤ s) (h2 : s < 285) (hl : p + morev s ≤ lim) : lengthE z lim p s = .ok (sumL (s - 257) + takev z p (morev s), p + morev s) := by
  have hs := sumL_is (s - 257) (by omega)
  unfold lengthE
  rw [if_neg (by omega), if_neg (by omega)]
  unfold spreadE
  unfold morev at hl ⊢
  by_cases h8 : s - 257 < 2 * 4
  · rw [if_pos h8]
    rw [if_pos (by omega)] at hs
    have e0 : (s - 257) / 4 - 1 = 0 := by omega
    simp only [e0, takev, Nat.add_zero]
    rw [hs]
  · rw [if_neg h8, if_pos hl]
    rw [if_neg (by omega)] at hs
    simp only
    rw [← hs]
    congr 2
    omega
theorem dist_fix {z : Nat → Nat} {lim p d : Nat} (hd : d < 30) (h : ∀ k, k < 5 → bit z (p + k) = d / 2 ^ (5 - 1 - k) % 2) (hl : p + 5 + farv d ≤ lim) : distE fixD 32 z lim p = .ok (sumD d + takev z (p + 5) (farv d), p + 5 + farv d) := by
  have hs := sumD_is d hd
  unfold distE
  rw [sym_dist (by omega) h (by omega)]
  simp only
  rw [if_neg (by omega)]
  unfold spreadE
  unfold farv at hl ⊢
  by_cases h8 : d < 2 * 2
  · rw [if_pos h8]
    rw [if_pos (by omega)] at hs
    have e0 : d / 2 - 1 = 0 := by omega
    simp only [e0, takev, Nat.add_zero]
    rw [hs]
  · rw [if_neg h8, if_pos hl]
    rw [if_neg (by omega)] at hs
    simp only
    rw [← hs]
    congr 2
    omega
/-- A copy, byte by byte. -/
def cpL (back : Nat) : Nat → List Int → List Int
  | 0, out => out
  | n + 1, out => cpL back n (out ++ [out.getD (out.length - back) 0])
theorem cpL_len (back : Nat) : ∀ n out, (cpL back n out).length = out.length + n
  | 0, out => rfl
  | n + 1, out => by simp only [cpL, cpL_len back n]; simp; omega
theorem cpE_is {most back : Nat} : ∀ {n : Nat} {out : List Int}, out.length + n ≤ most → cpE most back n out = .ok (cpL back n out)
  | 0, out, _ => rfl
  | n + 1, out, h => by
    unfold cpE cpL
    rw [if_neg (by omega)]
    exact cpE_is (by simp; omega)
theorem cpE_over {most back : Nat} : ∀ {n : Nat} {out : List Int}, most < out.length + n → out.length ≤ most → cpE most back n out = .error 4
  | 0, out, h, h2 => by omega
  | n + 1, out, h, h2 => by
    unfold cpE
    by_cases hf : most ≤ out.length
    · rw [if_pos hf]
    · rw [if_neg hf]
      exact cpE_over (by simp; omega) (by simp; omega)
/-- The bits of a copy lie at p: a length's symbol and its bits, a distance's and its. -/
structure SegC (z : Nat → Nat) (p s up d up2 : Nat) : Prop where
  sym : SegF z p s
  more : s = 285 ∨ s < 285 ∧ ∀ k, k < morev s → bit z (p + fixL s + k) = up / 2 ^ k % 2
  dist : ∀ k, k < 5 → bit z (p + fixL s + (if s = 285 then 0 else morev s) + k) = d / 2 ^ (5 - 1 - k) % 2
  far : ∀ k, k < farv d → bit z (p + fixL s + (if s = 285 then 0 else morev s) + 5 + k) = up2 / 2 ^ k % 2
/-- How long the copy is, how far it goes back, where it ends. -/
def cLen (s up : Nat) : Nat := if s = 285 then 258 else sumL (s - 257) + up
def cEnd (p s d : Nat) : Nat := p + fixL s + (if s = 285 then 0 else morev s) + 5 + farv d
theorem again_fix {z : Nat → Nat} {lim most p s up d up2 : Nat} {out : List Int} (h1 : 257 ≤ s) (h2 : s ≤ 285) (hd : d < 30) (hu : s = 285 ∨ up < 2 ^ morev s) (hu2 : up2 < 2 ^ farv d) (h : SegC z p s up d up2) (hl : cEnd p s d ≤ lim) :
    againE fixD 32 z lim most s (p + fixL s) out = if out.length < sumD d + up2 then .error 2 else
      match cpE most (sumD d + up2) (cLen s up) out with
      | .error e => .error e
      | .ok o => .ok (cEnd p s d, o) := by
  unfold cEnd at hl
  have hfar : takev z (p + fixL s + (if s = 285 then 0 else morev s) + 5) (farv d) = up2 := by rw [takev_of h.far, Nat.mod_eq_of_lt hu2]
  have hdist := dist_fix (lim := lim) hd h.dist hl
  rw [hfar] at hdist
  have hlen : lengthE z lim (p + fixL s) s = .ok (cLen s up, p + fixL s + (if s = 285 then 0 else morev s)) := by
    unfold cLen
    rcases h.more with rfl | ⟨hs, hm⟩
    · unfold lengthE; rfl
    · rw [if_neg (by omega), if_neg (by omega), len_fix h1 hs (by rw [if_neg (by omega)] at hl; omega), takev_of hm, Nat.mod_eq_of_lt (hu.resolve_left (by omega))]
  unfold againE
  rw [hlen]
  simp only
  rw [hdist]
  rfl
theorem mid_copy {z : Nat → Nat} {lim most p s up d up2 : Nat} {out : List Int} (h1 : 257 ≤ s) (h2 : s ≤ 285) (hd : d < 30) (hu : s = 285 ∨ up < 2 ^ morev s) (hu2 : up2 < 2 ^ farv d) (h : SegC z p s up d up2) (hl : cEnd p s d ≤ lim) (hb : sumD d + up2 ≤ out.length) (hm : out.length + cLen s up ≤ most) :
    midE z lim most (p, out) = midE z lim most (cEnd p s d, cpL (sumD d + up2) (cLen s up) out) := by
  have ha := again_fix (most := most) (out := out) h1 h2 hd hu hu2 h hl
  rw [if_neg (by omega), cpE_is hm] at ha
  unfold midE
  rw [codedE_more (st' := (cEnd p s d, cpL (sumD d + up2) (cLen s up) out)) (by unfold codedS; simp only; rw [sym_fix (by omega) h.sym (by unfold cEnd at hl; omega)]; simp only; rw [if_neg (by omega), if_neg (by omega), ha])]
theorem mid_copy_full {z : Nat → Nat} {lim most p s up d up2 : Nat} {out : List Int} (h1 : 257 ≤ s) (h2 : s ≤ 285) (hd : d < 30) (hu : s = 285 ∨ up < 2 ^ morev s) (hu2 : up2 < 2 ^ farv d) (h : SegC z p s up d up2) (hl : cEnd p s d ≤ lim) (hb : sumD d + up2 ≤ out.length) (hm : most < out.length + cLen s up) (ho : out.length ≤ most) :
    midE z lim most (p, out) = .error 4 := by
  have ha := again_fix (most := most) (out := out) h1 h2 hd hu hu2 h hl
  rw [if_neg (by omega), cpE_over hm ho] at ha
  unfold midE
  rw [codedE_done (r := .error 4) (by unfold codedS; simp only; rw [sym_fix (by omega) h.sym (by unfold cEnd at hl; omega)]; simp only; rw [if_neg (by omega), if_neg (by omega), ha])]
theorem mid_copy_bad {z : Nat → Nat} {lim most p s up d up2 : Nat} {out : List Int} (h1 : 257 ≤ s) (h2 : s ≤ 285) (hd : d < 30) (hu : s = 285 ∨ up < 2 ^ morev s) (hu2 : up2 < 2 ^ farv d) (h : SegC z p s up d up2) (hl : cEnd p s d ≤ lim) (hb : out.length < sumD d + up2) :
    midE z lim most (p, out) = .error 2 := by
  have ha := again_fix (most := most) (out := out) h1 h2 hd hu hu2 h hl
  rw [if_pos hb] at ha
  unfold midE
  rw [codedE_done (r := .error 2) (by unfold codedS; simp only; rw [sym_fix (by omega) h.sym (by unfold cEnd at hl; omega)]; simp only; rw [if_neg (by omega), if_neg (by omega), ha])]

/-- What is known of the bits so far: what they say, or that they say what may not be. -/
def Says (ok : Bool) (bs : List Int) (at' : Nat) (O : List Int) : Prop := ∀ (z : Nat → Nat) (lim most : Nat), Agree z bs at' → at' ≤ lim →
  if ok = true then (O.length ≤ most → blocksE z lim most (0, []) = midE z lim most (at', O)) ∧ (most < O.length → blocksE z lim most (0, []) = .error 4)
  else O.length ≤ most → blocksE z lim most (0, []) = .error 2
theorem Says.lit {ok : Bool} {bs bs' : List Int} {at' c : Nat} {O : List Int} (h : Says ok bs at' O) (hc : c < 256) (ho : ∀ p, p < at' → bit (zb bs') p = bit (zb bs) p) (hn : SegF (zb bs') at' c) : Says ok bs' (at' + fixL c) (O ++ [(c : Int)]) := by
  intro z lim most ha hl
  have h0 := h z lim most (ha.back (by omega) ho) (by omega)
  have hseg : SegF z at' c := fun k hk => by rw [ha _ (by omega)]; exact hn k hk
  cases ok with
  | true =>
    rw [if_pos rfl] at h0 ⊢
    refine ⟨fun hm => ?_, fun hm => ?_⟩
    · simp at hm
      rw [h0.1 (by omega), mid_lit hc hseg hl (by omega)]
    · simp at hm
      by_cases hm2 : O.length ≤ most
      · rw [h0.1 hm2, mid_lit_full hc hseg hl (by omega)]
      · exact h0.2 (by omega)
  | false =>
    rw [if_neg (by simp)] at h0 ⊢
    intro hm
    simp at hm
    exact h0 (by omega)
theorem Says.block {ok : Bool} {bs bs' : List Int} {at' : Nat} {O : List Int} (h : Says ok bs at' O) (ho : ∀ p, p < at' → bit (zb bs') p = bit (zb bs) p) (hn : SegF (zb bs') at' 256) (h3 : ∀ k, k < 3 → bit (zb bs') (at' + 7 + k) = 2 / 2 ^ k % 2) : Says ok bs' (at' + 7 + 3) O := by
  intro z lim most ha hl
  have h0 := h z lim most (ha.back (by omega) ho) (by omega)
  have e : fixL 256 = 7 := by decide
  have hseg : SegF z at' 256 := fun k hk => by rw [ha _ (by rw [e] at hk; omega)]; exact hn k hk
  cases ok with
  | true =>
    rw [if_pos rfl] at h0 ⊢
    refine ⟨fun hm => ?_, h0.2⟩
    rw [h0.1 hm, mid_end hseg (by omega), hdr_mid (fun k hk => by rw [ha _ (by omega)]; exact h3 k hk) (by omega)]
  | false =>
    rw [if_neg (by simp)] at h0 ⊢
    exact h0
theorem Says.copy {ok : Bool} {bs bs' : List Int} {at' s up d up2 : Nat} {O : List Int} (h : Says ok bs at' O) (h1 : 257 ≤ s) (h2 : s ≤ 285) (hd : d < 30) (hu : s = 285 ∨ up < 2 ^ morev s) (hu2 : up2 < 2 ^ farv d) (ho : ∀ p, p < at' → bit (zb bs') p = bit (zb bs) p) (hn : SegC (zb bs') at' s up d up2) :
    Says (ok && decide (sumD d + up2 ≤ O.length)) bs' (cEnd at' s d) (if (ok && decide (sumD d + up2 ≤ O.length)) = true then cpL (sumD d + up2) (cLen s up) O else O) := by
  intro z lim most ha hl
  have hle : at' ≤ cEnd at' s d := by unfold cEnd; omega
  have h0 := h z lim most (ha.back hle ho) (by omega)
  have hseg : SegC z at' s up d up2 := by
    unfold cEnd at ha
    refine ⟨fun k hk => by rw [ha _ (by omega)]; exact hn.sym k hk, ?_, fun k hk => by rw [ha _ (by omega)]; exact hn.dist k hk, fun k hk => by rw [ha _ (by omega)]; exact hn.far k hk⟩
    rcases hn.more with e | ⟨e, hm⟩
    · exact .inl e
    · exact .inr ⟨e, fun k hk => by rw [ha _ (by rw [if_neg (by omega)]; omega)]; exact hm k hk⟩
  by_cases hb : sumD d + up2 ≤ O.length
  · rw [decide_eq_true hb, Bool.and_true]
    cases ok with
    | true =>
      simp only [if_true] at h0 ⊢
      rw [cpL_len]
      refine ⟨fun hm => ?_, fun hm => ?_⟩
      · rw [h0.1 (by omega), mid_copy h1 h2 hd hu hu2 hseg hl hb hm]
      · by_cases hm2 : O.length ≤ most
        · rw [h0.1 hm2, mid_copy_full h1 h2 hd hu hu2 hseg hl hb hm hm2]
        · exact h0.2 (by omega)
    | false => simpa using h0
  · rw [decide_eq_false hb, Bool.and_false]
    simp only [Bool.false_eq_true, if_false]
    intro hm
    cases ok with
    | true =>
      rw [if_pos rfl] at h0
      rw [h0.1 hm, mid_copy_bad h1 h2 hd hu hu2 hseg hl (by omega)]
    | false => exact (by simpa using h0 : O.length ≤ most → _) hm
/-- What the whole says. -/
def SaysAll (ok : Bool) (bs : List Int) (at' : Nat) (O : List Int) : Prop := ∀ (z : Nat → Nat) (lim most : Nat), Agree z bs at' → at' ≤ lim →
  if ok = true then (O.length ≤ most → blocksE z lim most (0, []) = .ok (at', O)) ∧ (most < O.length → blocksE z lim most (0, []) = .error 4)
  else O.length ≤ most → blocksE z lim most (0, []) = .error 2
theorem Says.all {ok : Bool} {bs bs' : List Int} {at' : Nat} {O : List Int} (h : Says ok bs at' O) (ho : ∀ p, p < at' → bit (zb bs') p = bit (zb bs) p) (hn : SegF (zb bs') at' 256) (h3 : ∀ k, k < 3 → bit (zb bs') (at' + 7 + k) = 3 / 2 ^ k % 2) (hn2 : SegF (zb bs') (at' + 7 + 3) 256) : SaysAll ok bs' (at' + 7 + 3 + 7) O := by
  intro z lim most ha hl
  have h0 := h z lim most (ha.back (by omega) ho) (by omega)
  have e : fixL 256 = 7 := by decide
  have hseg : SegF z at' 256 := fun k hk => by rw [ha _ (by rw [e] at hk; omega)]; exact hn k hk
  have hseg2 : SegF z (at' + 7 + 3) 256 := fun k hk => by rw [ha _ (by rw [e] at hk; omega)]; exact hn2 k hk
  cases ok with
  | true =>
    rw [if_pos rfl] at h0 ⊢
    refine ⟨fun hm => ?_, h0.2⟩
    rw [h0.1 hm, mid_end hseg (by omega), last_end (fun k hk => by rw [ha _ (by omega)]; exact h3 k hk) hseg2 (by omega)]
  | false =>
    rw [if_neg (by simp)] at h0 ⊢
    exact h0
theorem says_new {bs : List Int} (h3 : ∀ k, k < 3 → bit (zb bs) (0 + k) = 2 / 2 ^ k % 2) : Says true bs 3 [] := by
  intro z lim most ha hl
  rw [if_pos rfl]
  refine ⟨fun _ => hdr_mid (fun k hk => by rw [ha _ (by omega)]; exact h3 k hk) (by omega), fun hm => by simp at hm⟩
end Go.Proofs.YtahibacjaoohiaaDoor
