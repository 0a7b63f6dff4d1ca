/-
  The reference's stored blocks.
  The reference's symbol: code by code, held against symE.
  The reference's symbol as a contract.
-/
import Derived.Test.YtahibacjaoohiaaDoorRB
import Derived.Test.YtahibacjaoohiaaDoorRA
namespace Go.Proofs.YtahibacjaoohiaaDoor
open Go.RowKit

/-- What a call on the reference's stream tells, held against what is said of the bits. -/
def RTells (F : Except Nat St) (B s sb : Nat) (a : Option Addr) (len cap : Nat) (z : Nat → Nat) (mo : Int) (v : Value) (w : World) (e : Ending) (w' : World) : Prop :=
  ∃ (v' : Value) (p' : Nat) (out' : List Int) (E' : Nat), RFl w' B s sb a len cap z mo E' v' p' out' ∧ Moves s sb v v' w w' ∧ (Hid (F = .ok (p', out')) ∧ E' = 0 ∧ e = .returned (.bool true) ∨ Hid (F = .error E') ∧ 0 < E' ∧ e = .returned (.bool false))

theorem fails_new (B s sb : Nat) (a : Option Addr) (len cap : Nat) (z : Nat → Nat) (mo : Int) (v : Value) (p : Nat) (out : List Int) (e0 : Nat) (w : World) (h : RFl w B s sb a len cap z mo 0 v p out) :
    Calls Tryd.prog 35 #[.pointer (some ⟨s, 0, none⟩), .int .i64 (e0 : Nat)] w fun e w' => e = .returned (.bool false) ∧ RFl w' B s sb a len cap z mo e0 v p out ∧ Moves s sb v v w w' := by
  have := fails_any B s sb a len cap z mo 0 v p out e0 w h
  rwa [if_pos rfl] at this
theorem rput_new (B s sb : Nat) (a : Option Addr) (len cap : Nat) (z : Nat → Nat) (mo : Int) (most : Nat) (hm : (most : Int) = if mo < 0 then 0 else mo) (v : Value) (p : Nat) (out : List Int) (c : Int) (w : World) (h : RFl w B s sb a len cap z mo 0 v p out) (hp : most ≤ out.length) :
    Calls Tryd.prog 50 #[.pointer (some ⟨s, 0, none⟩), .int .u8 c] w fun e w' => e = .returned (.bool false) ∧ RFl w' B s sb a len cap z mo 4 v p out ∧ Moves s sb v v w w' := by
  have := rput_no B s sb a len cap z mo most hm 0 v p out c w h hp
  rwa [if_pos rfl] at this
theorem st8E_end {z : Nat → Nat} {lim most k p : Nat} {out : List Int} (hk : 0 < k) (hp : ¬ p + 8 ≤ lim) : st8E z lim most k p out = .error 3 := by
  obtain ⟨j, rfl⟩ : ∃ j, k = j + 1 := ⟨k - 1, by omega⟩
  unfold st8E; rw [if_neg hp]
theorem st8E_full {z : Nat → Nat} {lim most k p : Nat} {out : List Int} (hk : 0 < k) (hp : p + 8 ≤ lim) (hm : most ≤ out.length) : st8E z lim most k p out = .error 4 := by
  obtain ⟨j, rfl⟩ : ∃ j, k = j + 1 := ⟨k - 1, by omega⟩
  unfold st8E; rw [if_pos hp, if_pos hm]
theorem st8E_more {z : Nat → Nat} {lim most k p : Nat} {out : List Int} (hk : 0 < k) (hp : p + 8 ≤ lim) (hm : ¬ most ≤ out.length) : st8E z lim most k p out = st8E z lim most (k - 1) (p + 8) (out ++ [((takev z p 8 : Nat) : Int)]) := by
  obtain ⟨j, rfl⟩ : ∃ j, k = j + 1 := ⟨k - 1, by omega⟩
  conv => lhs; unfold st8E
  rw [if_pos hp, if_neg hm]
  rfl
set_option maxRecDepth 100000 in
set_option maxHeartbeats 3200000 in
theorem rstored_any (B s sb : Nat) (a : Option Addr) (len cap : Nat) (z : Nat → Nat) (mo : Int) (most : Nat) (hm : (most : Int) = if mo < 0 then 0 else mo) (hml : most ≤ 140737488355000) (v : Value) (p : Nat) (out : List Int) (w : World) (h : RFl w B s sb a len cap z mo 0 v p out) :
    Calls Tryd.prog 31 #[.pointer (some ⟨s, 0, none⟩)] w (RTells (storedE z (8 * len) most p out) B s sb a len cap z mo v w) := by
  have c0 : w.cell? ⟨s, 0, none⟩ = some (.pointer (some ⟨sb, 0, none⟩)) := blk_cell h.obj 0
  have HM : Hid ((most : Int) = if mo < 0 then 0 else mo) := hm
  clear hm
  go_enter Tryd.func31, Tryd.ntmps31
  go_wp2_with fail
  refine (ralign_any sb a len cap z p _ h.bits).mono ?_
  rintro e w1 ⟨rfl, hB, hK⟩
  have h1 := h.taken hB hK
  have M1 : Moves s sb v v w w1 := Moves.of_bits hK
  clear h hB hK c0
  obtain ⟨q, hq⟩ : ∃ q, Hid (up8 p = q) := ⟨_, rfl⟩
  rw [hq.out] at h1
  go_wp2_with fail
  refine (rftake_any B s sb a len cap z mo 0 v q out 16 (by omega) _ h1).mono ?_
  rintro e w2 ⟨n, q2, E2, rfl, h2, M2, hn⟩
  have M2' := M1.trans M2
  clear h1 M1 M2
  go_wp2_with fail
  refine (rftake_any B s sb a len cap z mo E2 v q2 out 16 (by omega) _ h2).mono ?_
  rintro e w3 ⟨m, q3, E3, rfl, h3, M3, hmm⟩
  have M3' := M2'.trans M3
  have c3 : w3.cell? ⟨s, 3, none⟩ = some (.int .i64 (E3 : Nat)) := blk_cell h3.obj 3
  clear h2 M2' M3
  by_cases hsh : q + 32 ≤ 8 * len
  · obtain ⟨_, rfl, rfl, rfl⟩ : q + 16 ≤ 8 * len ∧ n = takev z q 16 ∧ q2 = q + 16 ∧ E2 = 0 := by
      rcases hn with hn | hn
      · exact hn
      · omega
    obtain ⟨_, rfl, rfl, rfl⟩ : q + 16 + 16 ≤ 8 * len ∧ m = takev z (q + 16) 16 ∧ q3 = q + 16 + 16 ∧ E3 = 0 := by
      rcases hmm with hn | hn
      · exact hn
      · omega
    replace c3 : w3.cell? ⟨s, 3, none⟩ = some (.int .i64 0) := c3
    have l1 := takev_lt z q 16
    have l2 := takev_lt z (q + 16) 16
    obtain ⟨n, hne⟩ : ∃ n, Hid (takev z q 16 = n) := ⟨_, rfl⟩
    obtain ⟨m, hme⟩ : ∃ m, Hid (takev z (q + 16) 16 = m) := ⟨_, rfl⟩
    rw [hne.out] at l1 ⊢
    rw [hme.out] at l2 ⊢
    have HF : Hid (storedE z (8 * len) most p out = if n + m = 65535 then st8E z (8 * len) most n (q + 32) out else .error 2) := by
      show _ = _
      unfold storedE
      rw [hq.out, if_pos hsh, hne.out, hme.out]
    have l1' : n < 65536 := l1
    have l2' : m < 65536 := l2
    clear l1 l2 hn hmm
    by_cases hs : n + m = 65535
    · have hs' : (((n : Int) + (m : Int)) != 65535) = false := by rw [bne_eq_false_iff_eq]; omega
      have HL : Hid (storedE z (8 * len) most p out = st8E z (8 * len) most n (q + 16 + 16) out) := by show _ = _; rw [HF.out, if_pos hs]
      clear hs hsh HF
      go_wp2_with fail
      clear hs' l2'
      go_loopw [5] (fun si wq => ∃ (i : Nat) (v1 : Value) (q1 : Nat) (o : List Int), si = .int .i64 (i : Nat) ∧ i ≤ n ∧ RFl wq B s sb a len cap z mo 0 v1 q1 o ∧ Moves s sb v v1 w wq ∧ Hid (storedE z (8 * len) most p out = st8E z (8 * len) most (n - i) q1 o)) (fun si _ => n - (intOf si).toNat)
      case atStart => exact ⟨0, v, q + 16 + 16, out, rfl, by omega, h3, M3', HL⟩
      case round =>
        clear h3 M3' HL c3
        obtain ⟨i, v1, q1, o, rfl, hi, hR, hMv, HL⟩ := hrel
        by_cases hin : i < n
        · have hin' : (i : Int) < (n : Int) := by omega
          go_wp2_with fail
          refine (rftake_any B s sb a len cap z mo 0 v1 q1 o 8 (by omega) _ hR).mono ?_
          rintro e w5 ⟨b, q5, E5, rfl, h5, M5, hb⟩
          have M5' := hMv.trans M5
          have d3 : w5.cell? ⟨s, 3, none⟩ = some (.int .i64 (E5 : Nat)) := blk_cell h5.obj 3
          clear hR hMv M5
          by_cases hq8 : q1 + 8 ≤ 8 * len
          · obtain ⟨_, rfl, rfl, rfl⟩ : q1 + 8 ≤ 8 * len ∧ b = takev z q1 8 ∧ q5 = q1 + 8 ∧ E5 = 0 := by
              rcases hb with hb | hb
              · exact hb
              · omega
            replace d3 : w5.cell? ⟨s, 3, none⟩ = some (.int .i64 0) := d3
            have lb := takev_lt z q1 8
            obtain ⟨b, hbe⟩ : ∃ b, Hid (takev z q1 8 = b) := ⟨_, rfl⟩
            rw [hbe.out] at lb ⊢
            have lb' : b < 256 := lb
            clear lb hb
            have HQ : Hid (q1 + 8 ≤ 8 * len) := hq8
            by_cases hfull : most ≤ o.length
            · have HFu : Hid (most ≤ o.length) := hfull
              clear hfull hq8
              go_wp2_with fail
              refine (rput_new B s sb a len cap z mo most HM.out v1 (q1 + 8) o _ _ h5 HFu.out).mono ?_
              rintro e w6 ⟨rfl, h6, M6⟩
              go_wp2
              go_ret
              exact ⟨v1, _, _, 4, h6, M5'.trans M6, .inr ⟨by show _ = _; rw [HL.out, st8E_full (by omega) HQ.out HFu.out], by omega, rfl⟩⟩
            · have HFu : Hid (¬ most ≤ o.length) := hfull
              clear hfull hq8
              go_wp2_with fail
              refine (rput_yes B s sb a len cap z mo most HM.out hml 0 v1 (q1 + 8) o (b : Nat) (by omega) (by omega) _ h5 HFu.out).mono ?_
              rintro e w6 ⟨rfl, v6, h6, M6⟩
              have M6' := M5'.trans M6
              go_wp2
              refine ⟨⟨i + 1, v6, q1 + 8, o ++ [((b : Nat) : Int)], by go_num, by omega, h6, M6', ?_⟩, by simp [intOf]; omega⟩
              show _ = _
              rw [HL.out, st8E_more (by omega) HQ.out HFu.out, hbe.out, show n - (i + 1) = n - i - 1 by omega]
          · have hE5 : E5 = 3 := by
              rcases hb with hb | ⟨_, _, _, hb⟩
              · omega
              · rw [hb, if_pos rfl]
            subst hE5
            have HQ : Hid (¬ q1 + 8 ≤ 8 * len) := hq8
            clear hb hq8
            go_wp2
            go_ret
            exact ⟨v1, _, _, 3, h5, M5', .inr ⟨by show _ = _; rw [HL.out, st8E_end (by omega) HQ.out], by omega, rfl⟩⟩
        · have hin' : ¬ (i : Int) < (n : Int) := by omega
          go_wp2
          go_ret
          exact ⟨v1, q1, o, 0, hR, hMv, .inl ⟨by show _ = _; rw [HL.out, show n - i = 0 by omega]; rfl, rfl, rfl⟩⟩
    · have hs' : (((n : Int) + (m : Int)) == 65535) = false := by rw [beq_eq_false_iff_ne]; omega
      have HS : Hid (¬ n + m = 65535) := hs
      clear hs hsh
      go_wp2_with fail
      refine (fails_new B s sb a len cap z mo v (q + 16 + 16) out 2 _ h3).mono ?_
      rintro e w4 ⟨rfl, h4, M4⟩
      go_wp2
      go_ret
      exact ⟨v, _, _, _, h4, M3'.trans M4, .inr ⟨by show _ = _; rw [HF.out, if_neg HS.out], by omega, rfl⟩⟩
  · have hE3 : E3 = 3 := by
      rcases hn with ⟨k1, _, k3, k4⟩ | ⟨k1, _, k3, k4⟩ <;> rcases hmm with ⟨j1, _, j3, j4⟩ | ⟨j1, _, j3, j4⟩ <;> simp_all <;> omega
    have HF : Hid (storedE z (8 * len) most p out = .error 3) := by
      show _ = _
      unfold storedE
      rw [hq.out, if_neg hsh]
    subst hE3
    clear hn hmm hsh
    go_wp2
    go_ret
    exact ⟨v, _, _, 3, h3, M3', .inr ⟨HF, by omega, rfl⟩⟩
end Go.Proofs.YtahibacjaoohiaaDoor

namespace Go.Proofs.YtahibacjaoohiaaDoor
open Go.RowKit

/-- A longer symbol among the first k. -/
def longer (L : Nat → Nat) (n : Nat) : Nat → Bool
  | 0 => false
  | k + 1 => longer L n k || decide (n < L k)
theorem longer_no {L : Nat → Nat} {n : Nat} : ∀ {N : Nat}, longer L n N = false → ∀ t, t < N → L t ≤ n
  | 0, _, t, h => by omega
  | N + 1, h, t, ht => by
    simp [longer] at h
    by_cases e : t = N
    · subst e; exact h.2
    · exact longer_no h.1 t (by omega)
theorem some_pos (L : Nat → Nat) (k : Nat) : decide (0 < some' L (k + 1)) = (decide (0 < some' L k) || decide (0 < L k)) := by
  by_cases h : L k = 0
  · simp [some', h]
  · have h1 : decide (0 < L k) = true := decide_eq_true (by omega)
    rw [h1, Bool.or_true]
    exact decide_eq_true (by simp only [some']; rw [if_neg h]; omega)
/-- No code of a longer length: what is left only doubles. -/
theorem left_up {c : Nat → Nat} {n : Nat} : ∀ k, (∀ m, n < m → c m = 0) → left c (n + k) = 2 ^ k * left c n
  | 0, _ => by simp
  | k + 1, h => by
    show 2 * left c (n + k) - c (n + k + 1) = _
    rw [h (n + k + 1) (by omega), left_up k h, Int.pow_succ]
    generalize (2 : Int) ^ k = P
    rw [Int.mul_comm P 2, Int.mul_assoc]; simp
theorem cnt_zero {L : Nat → Nat} {n : Nat} : ∀ {N : Nat}, (∀ t, t < N → L t ≠ n) → cnt L n N = 0
  | 0, _ => rfl
  | N + 1, h => by simp [cnt, cnt_zero (N := N) (fun t ht => h t (by omega)), h N (by omega)]
/-- A whole code: beyond the codes of a length there are longer ones. -/
theorem whole_longer {L : Nat → Nat} {N n c : Nat} (each : ∀ i, i < N → L i ≤ 15) (hw : full L N = 32768) (hn : n ≤ 15) (hc : c < 2 ^ n) (hb : first (cn L N) n + cn L N n ≤ c) : ∃ t, t < N ∧ n < L t := by
  by_cases h : ∃ t, t < N ∧ n < L t
  · exact h
  · exfalso
    have h0 : ∀ m, n < m → cn L N m = 0 := fun m hm => by
      rw [cn_pos (by omega)]
      exact cnt_zero fun t ht e => h ⟨t, ht, by omega⟩
    have h1 := left_eq (cn L N) (by simp [cn]) n
    have h2 := left_up (c := cn L N) (n := n) (15 - n) h0
    rw [show n + (15 - n) = 15 by omega] at h2
    have h3 := left_eq (cn L N) (by simp [cn]) 15
    have h4 := full_eq L N each
    have h5 : left (cn L N) 15 = 0 := by omega
    have h6 : 0 < left (cn L N) n := by
      have : ((c : Nat) : Int) < 2 ^ n := by
        have : ((c : Nat) : Int) < ((2 ^ n : Nat) : Int) := by omega
        rwa [Int.natCast_pow] at this
      omega
    have h7 : (0 : Int) < 2 ^ (15 - n) := by
      have : ((2 ^ (15 - n) : Nat) : Int) = 2 ^ (15 - n) := by rw [Int.natCast_pow]; rfl
      have := Nat.two_pow_pos (15 - n)
      omega
    have := Int.mul_pos h7 h6
    omega
/-- One symbol alone: its length is 1, its code 0. -/
theorem one_len {L : Nat → Nat} : ∀ {N : Nat}, some' L N = 1 → 0 < L (lastsym L N) ∧ ∀ t, t < N → 0 < L t → t = lastsym L N
  | 0, h => by simp [some'] at h
  | N + 1, h => by
    simp only [some'] at h
    by_cases h0 : L N = 0
    · have ih := one_len (N := N) (by simpa [h0] using h)
      have e : lastsym L (N + 1) = lastsym L N := by simp [lastsym, h0]
      rw [e]
      refine ⟨ih.1, fun t ht hp => ?_⟩
      by_cases e2 : t = N
      · subst e2; omega
      · exact ih.2 t (by omega) hp
    · have e : lastsym L (N + 1) = N := by simp [lastsym, h0]
      rw [e]
      refine ⟨by omega, fun t ht hp => ?_⟩
      by_cases e2 : t = N
      · exact e2
      · exfalso
        have hs : some' L N = 0 := by simp [h0] at h; exact h
        have key : ∀ M, some' L M = 0 → ∀ t, t < M → L t = 0 := by
          intro M
          induction M with
          | zero => intro _ t ht; omega
          | succ M ih =>
            intro h t ht
            simp only [some'] at h
            have h0 : L M = 0 := by split at h <;> omega
            by_cases e : t = M
            · subst e; exact h0
            · exact ih (by omega) t (by omega)
        have := key N hs t (by omega)
        omega
theorem cnt_one_ex {L : Nat → Nat} {n : Nat} : ∀ {N : Nat}, 0 < cnt L n N → ∃ t, t < N ∧ L t = n
  | 0, h => by simp [cnt] at h
  | N + 1, h => by
    simp only [cnt] at h
    by_cases e : L N = n
    · exact ⟨N, by omega, e⟩
    · rw [if_neg e] at h
      obtain ⟨t, h1, h2⟩ := cnt_one_ex (N := N) (by omega)
      exact ⟨t, by omega, h2⟩
theorem one_is {L : Nat → Nat} {N : Nat} (each : ∀ i, i < N → L i ≤ 15) (ok : okc L N = true) (h1 : some' L N = 1) : lastsym L N < N ∧ L (lastsym L N) = 1 ∧ codev L N (lastsym L N) = 0 ∧ (∀ t, t < N → L t ≤ 1) ∧ (∀ t, t < N → L t = 1 → t = lastsym L N) := by
  have hf : full L N = 16384 ∨ full L N = 32768 := by
    have : full L N = 32768 ∨ some' L N = 0 ∨ some' L N = 1 ∧ full L N = 16384 := by simpa [okc] using ok
    rcases this with h | h | h
    · exact .inr h
    · omega
    · exact .inl h.2
  have hN : 0 < N := by have := some_le L N; omega
  obtain ⟨hp, hu⟩ := one_len h1
  have hlt := lastsym_lt L N hN
  have hne : full L N ≠ 32768 := by
    have key : ∀ M, (∀ t, t < M → t < N) → full L M ≤ 16384 * some' L M := by
      intro M
      induction M with
      | zero => intro _; exact Nat.le_refl _
      | succ M ih =>
        intro hM
        have := ih (fun t ht => hM t (by omega))
        simp only [full, some']
        split
        · omega
        · have : 2 ^ (15 - L M) ≤ 2 ^ 14 := Nat.pow_le_pow_right (by omega) (by omega)
          omega
    have := key N (fun _ h => h)
    rw [h1] at this
    omega
  have hc := (full_one L N each h1).1 (by omega)
  obtain ⟨t, ht, htl⟩ := cnt_one_ex (L := L) (n := 1) (N := N) (by omega)
  have e := hu t ht (by omega)
  subst e
  have hl1 : L (lastsym L N) = 1 := htl
  refine ⟨hlt, hl1, ?_, fun t ht => ?_, fun t ht h => hu t ht (by omega)⟩
  · unfold codev
    rw [if_neg (by omega), hl1]
    have : cnt L 1 (lastsym L N) = 0 := cnt_zero fun s hs e2 => by have := hu s (by omega) (by omega); omega
    simp [first, cn, this]
  · by_cases h0 : L t = 0
    · omega
    · have := hu t ht (by omega); rw [this]; omega

/-- What symbol tells: -1 beside what went wrong. -/
def RSymR (F : Except Nat (Nat × Nat)) (B s sb : Nat) (a : Option Addr) (len cap : Nat) (z : Nat → Nat) (mo : Int) (v : Value) (out : List Int) (w : World) (e : Ending) (w' : World) : Prop :=
  ∃ (p' E' : Nat) (t : Int), RFl w' B s sb a len cap z mo E' v p' out ∧ Moves s sb v v w w' ∧ e = .returned (.int .i64 t) ∧ (E' = 0 ∧ (∃ n : Nat, t = n ∧ Hid (F = .ok (n, p'))) ∨ t = -1 ∧ 0 < E' ∧ Hid (F = .error E'))
/-- Step by step: what is read from n bits on, of code c. -/
def symN (L : Nat → Nat) (N : Nat) (z : Nat → Nat) (lim : Nat) (R : Except Nat (Nat × Nat)) (n c p : Nat) : Prop :=
  n ≤ 15 ∧ c < 2 ^ n ∧ first (cn L N) n + cn L N n ≤ c ∧
  ((some' L N = 1 ∧ n = 0 ∧ R = symE L N z lim p) ∨
   (full L N = 32768 ∧ 1 < some' L N ∧ R = if (rd L N (bit z) lim (15 - n) n c p).2.1 = true then .ok ((rd L N (bit z) lim (15 - n) n c p).1, (rd L N (bit z) lim (15 - n) n c p).2.2) else .error 3))
theorem symN_start {L : Nat → Nat} {N : Nat} {z : Nat → Nat} {lim p : Nat} (ok : okc L N = true) (h0 : 0 < some' L N) : symN L N z lim (symE L N z lim p) 0 0 p := by
  refine ⟨by omega, by simp, by simp [first, cn], ?_⟩
  by_cases h1 : some' L N = 1
  · exact .inl ⟨h1, rfl, rfl⟩
  · refine .inr ⟨?_, by omega, ?_⟩
    · have : full L N = 32768 ∨ some' L N = 0 ∨ some' L N = 1 ∧ full L N = 16384 := by simpa [okc] using ok
      omega
    · unfold symE; rw [if_neg (by omega), if_neg h1]; rfl
theorem symN_lt {L : Nat → Nat} {N : Nat} {z : Nat → Nat} {lim n c p : Nat} {R : Except Nat (Nat × Nat)} (each : ∀ i, i < N → L i ≤ 15) (h : symN L N z lim R n c p) : n < 15 := by
  obtain ⟨h1, h2, h3, h | ⟨hw, _, _⟩⟩ := h
  · omega
  · by_cases e : n = 15
    · subst e
      obtain ⟨t, ht, hl⟩ := whole_longer each hw h1 h2 h3
      have := each t ht
      omega
    · omega
theorem symN_end {L : Nat → Nat} {N : Nat} {z : Nat → Nat} {lim n c p : Nat} {R : Except Nat (Nat × Nat)} (each : ∀ i, i < N → L i ≤ 15) (h : symN L N z lim R n c p) (hp : ¬ p < lim) : R = .error 3 := by
  have hn := symN_lt each h
  obtain ⟨h1, h2, h3, ⟨hs, _, rfl⟩ | ⟨hw, _, rfl⟩⟩ := h
  · unfold symE; rw [if_neg (by omega), if_pos hs, if_neg hp]
  · rw [rd_no hn hp]; simp
theorem symN_hit {L : Nat → Nat} {N : Nat} {z : Nat → Nat} {lim n c p t : Nat} {R : Except Nat (Nat × Nat)} (each : ∀ i, i < N → L i ≤ 15) (ok : okc L N = true) (h : symN L N z lim R n c p) (hp : p < lim) (ht : t < N) (hl : L t = n + 1) (hc : codev L N t = 2 * c + bit z p) : R = .ok (t, p + 1) := by
  have hn := symN_lt each h
  obtain ⟨h1, h2, h3, ⟨hs, rfl, rfl⟩ | ⟨hw, _, rfl⟩⟩ := h
  · obtain ⟨k1, k2, k3, k4, k5⟩ := one_is each ok hs
    have e := k5 t ht (by omega)
    subst e
    have hb : bit z p = 0 := by omega
    unfold symE; rw [if_neg (by omega), if_pos hs, if_pos hp, if_pos hb]
  · obtain ⟨r, hr1, hr2, hr3⟩ := code_is ht (by omega) hl hc
    rw [rd_hit hn hp hr1 hr2, hr3]; simp
theorem symN_none {L : Nat → Nat} {N : Nat} {z : Nat → Nat} {lim n c p : Nat} {R : Except Nat (Nat × Nat)} (each : ∀ i, i < N → L i ≤ 15) (ok : okc L N = true) (h : symN L N z lim R n c p) (hp : p < lim) (hno : ∀ t, t < N → ¬ (L t = n + 1 ∧ codev L N t = 2 * c + bit z p)) :
    (longer L (n + 1) N = false ∧ R = .error 2) ∨ (longer L (n + 1) N = true ∧ symN L N z lim R (n + 1) (2 * c + bit z p) (p + 1)) := by
  have hn := symN_lt each h
  have hbl := bit_lt z p
  obtain ⟨h1, h2, h3, ⟨hs, rfl, rfl⟩ | ⟨hw, hs2, rfl⟩⟩ := h
  · obtain ⟨k1, k2, k3, k4, k5⟩ := one_is each ok hs
    left
    have c0 : c = 0 := by simp at h2; exact h2
    subst c0
    have hb : ¬ bit z p = 0 := fun e => hno _ k1 ⟨by omega, by omega⟩
    refine ⟨?_, by unfold symE; rw [if_neg (by omega), if_pos hs, if_pos hp, if_neg hb]⟩
    have key : ∀ M, M ≤ N → longer L 1 M = false := by
      intro M
      induction M with
      | zero => intro _; rfl
      | succ M ih => intro hM; simp [longer, ih (by omega)]; exact k4 M (by omega)
    exact key N (Nat.le_refl _)
  · have hfi : first (cn L N) (n + 1) ≤ 2 * c + bit z p := by simp only [first]; omega
    have hlt := code_none (L := L) (N := N) (n := n + 1) (c := 2 * c + bit z p) (by omega) hfi hno
    have hc2 : 2 * c + bit z p < 2 ^ (n + 1) := by rw [Nat.pow_succ]; omega
    right
    obtain ⟨t, ht, hl⟩ := whole_longer each hw (by omega : n + 1 ≤ 15) hc2 (by omega)
    refine ⟨?_, by omega, hc2, by omega, .inr ⟨hw, hs2, ?_⟩⟩
    · cases e : longer L (n + 1) N with
      | true => rfl
      | false => have := longer_no e t ht; omega
    · rw [rd_on hn hp hlt]
end Go.Proofs.YtahibacjaoohiaaDoor

namespace Go.Proofs.YtahibacjaoohiaaDoor
open Go.RowKit

set_option maxRecDepth 100000 in
set_option maxHeartbeats 3200000 in
theorem rsymbol_any (B s sb : Nat) (a : Option Addr) (len cap : Nat) (z : Nat → Nat) (mo : Int) (v : Value) (p : Nat) (out : List Int) (rc gc gl capl N : Nat) (L : Nat → Nat) (w : World) (h : RFl w B s sb a len cap z mo 0 v p out) (hC : RCode w rc gc gl capl N L) (n1 : ¬ Mine s sb v rc) (n2 : ¬ Mine s sb v gc) (n3 : ¬ Mine s sb v gl) :
    Calls Tryd.prog 52 #[.pointer (some ⟨s, 0, none⟩), .pointer (some ⟨rc, 0, none⟩)] w (RSymR (symE L N z (8 * len) p) B s sb a len cap z mo v out w) := by
  have hf := hC.few
  have hlc := hC.lcap
  have HE : Hid (∀ i, i < N → L i ≤ 15) := hC.each
  have HO : Hid (okc L N = true) := hC.ok
  have hls := hC.ls
  obtain ⟨R, hR⟩ : ∃ R, Hid (symE L N z (8 * len) p = R) := ⟨_, rfl⟩
  rw [hR.out]
  go_enter Tryd.func52, Tryd.ntmps52
  go_wp2_with fail
  go_loopw [7, 8] (fun m j wq => ∃ (i : Nat) (bb : Bool), i ≤ N ∧ m = .bool bb ∧ Hid (bb = decide (0 < some' L i)) ∧ j = .int .i64 (i : Nat) ∧ wq = w) (fun _ j _ => N - (intOf j).toNat)
  case atStart => exact ⟨0, false, by omega, rfl, by show _ = _; simp [some'], rfl, rfl⟩
  case round =>
    obtain ⟨i, bb, hi, rfl, hbb, rfl, rfl⟩ := hrel
    by_cases hiN : i < N
    · have hiN' : (i : Int) < (N : Int) := by omega
      have e1 := hC.l i hiN
      cases bb
      · by_cases h0 : 0 < L i
        · have h0' : (0 : Int) < ((L i : Nat) : Int) := by omega
          have HB : Hid (true = decide (0 < some' L (i + 1))) := by show _ = _; rw [some_pos, ← hbb.out, decide_eq_true h0]; rfl
          have H0 : Hid (0 < L i) := h0
          clear h0
          go_wp2
          exact ⟨⟨i + 1, true, by omega, congrArg Value.bool (decide_eq_true H0.out), HB, by go_num, by trivial⟩, by simp [intOf]; omega⟩
        · have h0' : ¬ (0 : Int) < ((L i : Nat) : Int) := by omega
          have HB : Hid (false = decide (0 < some' L (i + 1))) := by show _ = _; rw [some_pos, ← hbb.out, decide_eq_false h0]; rfl
          have H0 : Hid (¬ 0 < L i) := h0
          clear h0
          go_wp2
          exact ⟨⟨i + 1, false, by omega, congrArg Value.bool (decide_eq_false H0.out), HB, by go_num, by trivial⟩, by simp [intOf]; omega⟩
      · have HB : Hid (true = decide (0 < some' L (i + 1))) := by show _ = _; rw [some_pos, ← hbb.out]; rfl
        go_wp2
        exact ⟨⟨i + 1, true, by omega, by trivial, HB, by go_num, by trivial⟩, by simp [intOf]; omega⟩
    · have hiN' : ¬ (i : Int) < (N : Int) := by omega
      have ei : i = N := by omega
      have HBN : Hid (bb = decide (0 < some' L N)) := by show _ = _; rw [← ei]; exact hbb.out
      clear hbb ei
      cases bb
      · have HF : Hid (R = .error 2) := by
          show _ = _
          have h0 : ¬ 0 < some' L N := of_decide_eq_false HBN.out.symm
          rw [← hR.out]; unfold symE; rw [if_pos (by omega)]
        go_wp2_with fail
        refine (fails_new B s sb a len cap z mo v p out 2 _ h).mono ?_
        rintro e w4 ⟨rfl, h4, M4⟩
        go_wp2
        go_ret
        exact ⟨_, _, _, h4, M4, rfl, .inr ⟨rfl, by omega, HF⟩⟩
      · have HN : Hid (symN L N z (8 * len) R 0 0 p) := by
          show symN _ _ _ _ _ _ _ _
          rw [← hR.out]
          exact symN_start HO.out (of_decide_eq_true HBN.out.symm)
        go_wp2_with fail
        clear hiN hiN' hi
        obtain ⟨wz, hwz⟩ : ∃ wz, wz = wr := ⟨_, rfl⟩
        subst hwz
        go_loopw [5, 6] (fun x y wq => ∃ (n c p1 : Nat), x = .int .i64 (n : Nat) ∧ y = .int .i64 (c : Nat) ∧ RFl wq B s sb a len cap z mo 0 v p1 out ∧ Moves s sb v v wz wq ∧ Hid (symN L N z (8 * len) R n c p1)) (fun x _ _ => 15 - (intOf x).toNat)
        case atStart => exact ⟨0, 0, p, rfl, rfl, h, Moves.refl _ _ _ _, HN⟩
        case round =>
          clear HN
          obtain ⟨n, c, p1, rfl, rfl, hS, hM, HN⟩ := hrel
          have hn15 : n < 15 := symN_lt HE.out HN.out
          have hn15' : (n : Int) < 15 := by omega
          have hc : c < 2 ^ n := HN.out.2.1
          have hc15 : c < 32768 := Nat.lt_of_lt_of_le hc (Nat.le_trans (Nat.pow_le_pow_right (by omega) (by omega : n ≤ 15)) (by decide : 2 ^ 15 ≤ 32768))
          clear hc
          have s0 : wr.cell? ⟨s, 0, none⟩ = some (.pointer (some ⟨sb, 0, none⟩)) := blk_cell hS.obj 0
          by_cases hp : p1 < 8 * len
          · go_wp2_with fail
            refine (rtake_yes sb a len cap z p1 _ hS.bits hp).mono ?_
            rintro e w1 ⟨rfl, hB1, hK1⟩
            have hS1 := hS.taken hB1 hK1
            have hM1 : Moves s sb v v wz w1 := hM.trans (Moves.of_bits hK1)
            have hC1 := hC.kept hM1.kept n1 n2 n3
            clear hS hM hB1 hK1 s0
            have hbit := bit_lt z p1
            have hcs1 := hC1.cs
            have hls1 := hC1.ls
            have hci : (c : Int) * 2 = 2 * (c : Int) := by omega
            have HP : Hid (p1 < 8 * len) := hp
            clear hp
            go_wp2_with fail
            obtain ⟨wy, hwy⟩ : ∃ wy, wy = wr := ⟨_, rfl⟩
            subst hwy
            go_loopw [11, 12] (fun an j wq => ∃ (t : Nat) (bb : Bool), t ≤ N ∧ Hid (∀ s, s < t → ¬ (L s = n + 1 ∧ codev L N s = 2 * c + bit z p1)) ∧ an = .bool bb ∧ Hid (bb = longer L (n + 1) t) ∧ j = .int .i64 (t : Nat) ∧ wq = w1) (fun _ j _ => N - (intOf j).toNat)
            case atStart => exact ⟨0, false, by omega, fun s hs => by omega, rfl, rfl, rfl, rfl⟩
            case round =>
              obtain ⟨t, bb, ht, hno, rfl, hbb, rfl, rfl⟩ := hrel
              by_cases htN : t < N
              · have htN' : (t : Int) < (N : Int) := by omega
                have e1 := hC1.l t htN
                have e2 := hC1.c t htN
                by_cases hm : L t = n + 1 ∧ codev L N t = 2 * c + bit z p1
                · obtain ⟨hm1, hm2⟩ := hm
                  have HF : Hid (R = .ok (t, p1 + 1)) := symN_hit HE.out HO.out HN.out HP.out htN hm1 hm2
                  rw [hm1] at e1
                  rw [hm2] at e2
                  clear hm1 hm2
                  go_wp2
                  go_ret
                  exact ⟨p1 + 1, 0, _, hS1, hM1, rfl, .inl ⟨rfl, t, rfl, HF⟩⟩
                · have HS : Hid (∀ s, s < t + 1 → ¬ (L s = n + 1 ∧ codev L N s = 2 * c + bit z p1)) := fun s hs => by
                    by_cases e : s = t
                    · subst e; exact hm
                    · exact hno.out s (by omega)
                  by_cases hl : L t = n + 1
                  · have hne : ¬ ((codev L N t : Nat) : Int) = 2 * (c : Int) + (bit z p1 : Nat) := fun e => hm ⟨hl, by omega⟩
                    have HB : Hid (bb = longer L (n + 1) (t + 1)) := by show _ = _; simp only [longer, ← hbb.out, hl]; simp
                    rw [hl] at e1
                    clear hm hl
                    cases bb
                    · go_wp2
                      exact ⟨⟨t + 1, false, by omega, HS, by trivial, HB, by go_num, by trivial⟩, by simp [intOf]; omega⟩
                    · go_wp2
                      exact ⟨⟨t + 1, true, by omega, HS, by trivial, HB, by go_num, by trivial⟩, by simp [intOf]; omega⟩
                  · have hne : ¬ ((L t : Nat) : Int) = (n : Int) + 1 := by omega
                    have hne2 : ¬ ((L t : Nat) : Int) = ((n + 1 : Nat) : Int) := by omega
                    by_cases hg : n + 1 < L t
                    · have hg' : (n : Int) + 1 < ((L t : Nat) : Int) := by omega
                      have HB : Hid (true = longer L (n + 1) (t + 1)) := by show _ = _; simp only [longer, decide_eq_true hg]; simp
                      clear hm hl hg
                      cases bb
                      · go_wp2
                        exact ⟨⟨t + 1, true, by omega, HS, by trivial, HB, by go_num, by trivial⟩, by simp [intOf]; omega⟩
                      · go_wp2
                        exact ⟨⟨t + 1, true, by omega, HS, by trivial, HB, by go_num, by trivial⟩, by simp [intOf]; omega⟩
                    · have hg' : ¬ (n : Int) + 1 < ((L t : Nat) : Int) := by omega
                      have HB : Hid (bb = longer L (n + 1) (t + 1)) := by show _ = _; simp only [longer, ← hbb.out, decide_eq_false hg]; simp
                      clear hm hl hg
                      cases bb
                      · go_wp2
                        exact ⟨⟨t + 1, false, by omega, HS, by trivial, HB, by go_num, by trivial⟩, by simp [intOf]; omega⟩
                      · go_wp2
                        exact ⟨⟨t + 1, true, by omega, HS, by trivial, HB, by go_num, by trivial⟩, by simp [intOf]; omega⟩
              · have htN' : ¬ (t : Int) < (N : Int) := by omega
                have et : t = N := by omega
                have HX := symN_none HE.out HO.out HN.out HP.out (fun s hs => hno.out s (by omega))
                have HBB : Hid (bb = longer L (n + 1) N) := by show _ = _; rw [← et]; exact hbb.out
                clear hno hbb et
                cases bb
                · have HF : Hid (R = .error 2) := by
                    rcases HX with hx | hx
                    · exact hx.2
                    · exfalso; have := HBB.out; rw [hx.1] at this; cases this
                  clear HX
                  go_wp2_with fail
                  refine (fails_new B s sb a len cap z mo v (p1 + 1) out 2 _ hS1).mono ?_
                  rintro e w4 ⟨rfl, h4, M4⟩
                  go_wp2
                  go_ret
                  exact ⟨_, _, _, h4, hM1.trans M4, rfl, .inr ⟨rfl, by omega, HF⟩⟩
                · have HF : Hid (symN L N z (8 * len) R (n + 1) (2 * c + bit z p1) (p1 + 1)) := by
                    rcases HX with hx | hx
                    · exfalso; have := HBB.out; rw [hx.1] at this; cases this
                    · exact hx.2
                  clear HX
                  go_wp2
                  exact ⟨⟨n + 1, 2 * c + bit z p1, p1 + 1, by go_num, by go_num, hS1, hM1, HF⟩, by simp [intOf]; omega⟩
          · have HF : Hid (R = .error 3) := symN_end HE.out HN.out hp
            go_wp2_with fail
            refine (rtake_no sb a len cap z p1 _ hS.bits hp).mono ?_
            rintro e w1 ⟨rfl, hB1, hK1⟩
            have hS1 := hS.taken hB1 hK1
            have hM1 : Moves s sb v v wz w1 := hM.trans (Moves.of_bits hK1)
            clear hp
            go_wp2_with fail
            refine (fails_new B s sb a len cap z mo v p1 out 3 _ hS1).mono ?_
            rintro e w4 ⟨rfl, h4, M4⟩
            go_wp2
            go_ret
            exact ⟨_, _, _, h4, hM1.trans M4, rfl, .inr ⟨rfl, by omega, HF⟩⟩
end Go.Proofs.YtahibacjaoohiaaDoor
