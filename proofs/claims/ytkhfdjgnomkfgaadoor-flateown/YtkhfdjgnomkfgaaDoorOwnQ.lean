/-
  A stream of one block with a code of its own, whose lengths are told by codes of four bits: what is laid is inflated to what it says. No Go text is walked here.
-/
import Derived.Test.YtkhfdjgnomkfgaaDoorFixP
import Derived.Test.YtkhfdjgnomkfgaaDoorKraft
namespace Go.Proofs.YtkhfdjgnomkfgaaDoor

/-- A number lies at p: lowest bit first; highest bit first. -/
def SegB (z : Nat → Nat) (p v n : Nat) : Prop := ∀ k, k < n → bit z (p + k) = v / 2 ^ k % 2
def SegH (z : Nat → Nat) (p v n : Nat) : Prop := ∀ k, k < n → bit z (p + k) = v / 2 ^ (n - 1 - k) % 2
theorem SegB.back {z : Nat → Nat} {bs : List Int} {at' p v n : Nat} (h : SegB (zb bs) p v n) (ha : Agree z bs at') (hl : p + n ≤ at') : SegB z p v n := fun k hk => by rw [ha _ (by omega)]; exact h k hk
theorem SegH.back {z : Nat → Nat} {bs : List Int} {at' p v n : Nat} (h : SegH (zb bs) p v n) (ha : Agree z bs at') (hl : p + n ≤ at') : SegH z p v n := fun k hk => by rw [ha _ (by omega)]; exact h k hk
/-- Of the lengths' symbols sixteen have codes of four bits. -/
def ownA (i : Nat) : Nat := if i < 16 then 4 else 0
def four (k : Nat) : Nat := if ord k < 16 then 4 else 0
def shA : Nat → Nat → Nat
  | 0, _ => 0
  | k + 1, i => if i = ord k then four k else shA k i
theorem four_lt (k : Nat) : four k < 8 := by unfold four; split <;> omega
theorem shL_own {z : Nat → Nat} {p : Nat} (h : ∀ k, k < 19 → SegB z (p + 3 * k) (four k) 3) (i : Nat) : ∀ n, n ≤ 19 → shL z p n i = shA n i
  | 0, _ => rfl
  | n + 1, hn => by
    unfold shL shA
    rw [shL_own h i n (by omega), takev_of (h n (by omega)), Nat.mod_eq_of_lt (four_lt n)]
theorem shA_zero {i : Nat} (hi : 19 ≤ i) : ∀ n, n ≤ 19 → shA n i = 0
  | 0, _ => rfl
  | n + 1, hn => by
    unfold shA
    have := ord_lt n (by omega)
    rw [if_neg (by omega), shA_zero hi n (by omega)]
theorem shA_own : shA 19 = ownA := by
  funext i
  by_cases hi : i < 19
  · have : ∀ i : Fin 19, shA 19 i.val = ownA i.val := by decide
    exact this ⟨i, hi⟩
  · rw [shA_zero (by omega) 19 (Nat.le_refl _)]
    unfold ownA
    rw [if_neg (by omega)]
theorem ownA_okc : okc ownA 19 = true := by decide +kernel
theorem ownA_some : some' ownA 19 = 16 := by decide +kernel
theorem ownA_code (v : Nat) (h : v < 16) : codev ownA 19 v = v := by
  have : ∀ v : Fin 16, codev ownA 19 v.val = v.val := by decide +kernel
  exact this ⟨v, h⟩
theorem sym_four {z : Nat → Nat} {lim p v : Nat} (hv : v < 16) (h : SegH z p v 4) (hl : p + 4 ≤ lim) : symE ownA 19 z lim p = .ok (v, p + 4) := by
  have e4 : ownA v = 4 := by unfold ownA; rw [if_pos hv]
  have hc : codev ownA 19 v < 2 ^ ownA v := by rw [ownA_code v hv, e4]; omega
  have hr := rdv_back (L := ownA) (N := 19) (b := bit z) (lim := lim) (p := p) (show v < 19 by omega) (by omega) (by omega) (by omega) (fun k hk => by rw [ownA_code v hv, e4]; exact h k (by omega)) hc
  unfold symE
  rw [ownA_some, if_neg (by omega), if_neg (by omega), hr, if_pos rfl, e4]
/-- The lengths, each by four bits. -/
theorem lens_go {z : Nat → Nat} {lim P n : Nat} {us : List Int} (hn : us.length = n) (h15 : ∀ x ∈ us, 0 ≤ x ∧ x ≤ 15) (h : ∀ i, i < n → SegH z (P + 4 * i) (us.getD i 0).toNat 4) (hl : P + 4 * n ≤ lim) :
    ∀ k i, i + k = n → lensE ownA n z lim (P + 4 * i, us.take i) = .ok (P + 4 * n, us)
  | 0, i, hi => by
    obtain rfl : i = n := by omega
    refine lensE_done ?_
    unfold lensS
    simp only
    rw [if_pos (by rw [List.length_take]; omega), List.take_of_length_le (by omega)]
  | k + 1, i, hi => by
    have hi' : i < us.length := by omega
    have eg : us.getD i 0 = us[i] := by rw [List.getD_eq_getElem?_getD, List.getElem?_eq_getElem hi']; rfl
    have hb := h15 us[i] (List.getElem_mem hi')
    have hs := sym_four (z := z) (lim := lim) (p := P + 4 * i) (v := (us.getD i 0).toNat) (by rw [eg]; omega) (h i (by omega)) (by omega)
    have ht : ∀ x ∈ us.take i, 0 ≤ x ∧ x ≤ 15 := fun x hx => h15 x (List.mem_of_mem_take hx)
    rw [lensE_more (st' := (P + 4 * (i + 1), us.take (i + 1))) ?_ ht, lens_go hn h15 h hl k (i + 1) (by omega)]
    unfold lensS
    simp only
    have hlt : (us.take i).length = i := by rw [List.length_take]; omega
    rw [if_neg (by rw [hlt]; omega), hs]
    simp only
    unfold runE
    rw [if_pos (by rw [eg]; omega)]
    simp only
    rw [if_neg (by rw [hlt]; omega), List.take_add_one, List.getElem?_eq_getElem hi', eg]
    have e2 : ((us[i].toNat : Nat) : Int) = us[i] := by omega
    rw [e2]
    rfl
def lenF (ls : List Int) (i : Nat) : Nat := (ls.getD i 0).toNat
theorem nth_front (ls : List Int) : nthL (ls ++ [0]) 0 = lenF ls := by
  funext i
  unfold nthL lenF
  rw [Nat.zero_add]
  congr 1
  rw [List.getD_eq_getElem?_getD, List.getD_eq_getElem?_getD]
  by_cases h : i < ls.length
  · rw [List.getElem?_append_left h]
  · rw [List.getElem?_append_right (by omega), List.getElem?_eq_none (l := ls) (by omega)]
    by_cases h2 : i - ls.length = 0
    · rw [h2]; rfl
    · rw [List.getElem?_eq_none (by simp; omega)]
theorem nth_back {ls : List Int} (hl : ls.length = 257) : nthL (ls ++ [0]) 257 = fun _ => 0 := by
  funext i
  unfold nthL
  rw [List.getD_eq_getElem?_getD, List.getElem?_append_right (by omega)]
  by_cases h2 : 257 + i - ls.length = 0
  · rw [h2]; rfl
  · rw [List.getElem?_eq_none (by simp; omega)]; rfl
/-- All that is laid ahead of the codes. -/
structure HeadO (z : Nat → Nat) (ls : List Int) : Prop where
  h0 : SegB z 0 5 3
  h1 : SegB z 3 0 5
  h2 : SegB z 8 0 5
  h3 : SegB z 13 15 4
  h4 : ∀ k, k < 19 → SegB z (17 + 3 * k) (four k) 3
  h5 : ∀ i, i < 257 → SegH z (74 + 4 * i) (ls.getD i 0).toNat 4
  h6 : SegH z 1102 0 4
structure GoodO (ls : List Int) : Prop where
  len : ls.length = 257
  h15 : ∀ x ∈ ls, 0 ≤ x ∧ x ≤ 15
  ok : okc (lenF ls) 257 = true
  two : 2 ≤ some' (lenF ls) 257
  last : ls.getD 256 0 ≠ 0
theorem own_head {z : Nat → Nat} {ls : List Int} {lim : Nat} (h : HeadO z ls) (hg : GoodO ls) (hl : 1106 ≤ lim) : ownE z lim 3 = .ok (⟨lenF ls, 257, fun _ => 0, 1⟩, 1106) := by
  have t1 : takev z 3 5 = 0 := takev_of h.h1
  have t2 : takev z (3 + 5) 5 = 0 := takev_of h.h2
  have t3 : takev z (3 + 10) 4 = 15 := takev_of h.h3
  have hA : shL z (3 + 14) 19 = ownA := by rw [← shA_own]; funext i; exact shL_own h.h4 i 19 (Nat.le_refl _)
  have hlen : (ls ++ [0]).length = 258 := by rw [List.length_append, hg.len]; rfl
  have hE := lens_go (z := z) (lim := lim) (P := 74) (n := 258) (us := ls ++ [0]) hlen (fun x hx => by
      rcases List.mem_append.1 hx with hx | hx
      · exact hg.h15 x hx
      · simp at hx; subst hx; omega) (fun i hi => by
      rw [List.getD_eq_getElem?_getD]
      by_cases hi2 : i < 257
      · rw [List.getElem?_append_left (by rw [hg.len]; exact hi2), ← List.getD_eq_getElem?_getD]
        exact h.h5 i hi2
      · obtain rfl : i = 257 := by omega
        rw [List.getElem?_append_right (by rw [hg.len]; omega), hg.len]
        exact h.h6) (by omega) 258 0 (by omega)
  unfold ownE
  rw [t1, t2, t3, if_pos (by omega), if_neg (by omega), if_pos (by omega)]
  simp only [Nat.reduceAdd, Nat.reduceMul] at hA hE ⊢
  rw [hA, if_pos ownA_okc]
  rw [List.take_zero] at hE
  rw [hE]
  simp only
  have e256 : (ls ++ [0]).getD 256 0 = ls.getD 256 0 := by
    rw [List.getD_eq_getElem?_getD, List.getD_eq_getElem?_getD, List.getElem?_append_left (by rw [hg.len]; omega)]
  unfold pairE
  rw [e256, if_neg hg.last, nth_front, nth_back hg.len, if_pos hg.ok, if_pos (by decide)]
theorem hdr_own {z : Nat → Nat} {ls : List Int} {lim most : Nat} (h : HeadO z ls) (hg : GoodO ls) (hl : 1106 ≤ lim) : blocksE z lim most (0, []) = codedE (lenF ls) 257 (fun _ => 0) 1 z lim most (1106, []) := by
  have b0 : bit z 0 = 1 := h.h0 0 (by omega)
  have b1 : bit z 1 = 0 := h.h0 1 (by omega)
  have b2 : bit z 2 = 1 := h.h0 2 (by omega)
  have hk : takev z (0 + 1) 2 = 2 := by
    show 0 + bit z 1 * 2 ^ 0 + bit z 2 * 2 ^ 1 = 2
    rw [b1, b2]
  have hb : blockE z lim most (0, []) = match codedE (lenF ls) 257 (fun _ => 0) 1 z lim most (1106, []) with
      | .error e => .error e
      | .ok st' => .ok (true, st') := by
    unfold blockE
    simp only
    rw [if_pos (by omega), hk, b0]
    unfold kindE
    rw [if_neg (by omega), if_neg (by omega), if_pos rfl, own_head h hg hl]
    simp only
    generalize codedE (lenF ls) 257 (fun _ => 0) 1 z lim most (1106, []) = E
    cases E <;> rfl
  cases e : codedE (lenF ls) 257 (fun _ => 0) 1 z lim most (1106, []) with
  | error k => rw [e] at hb; exact blocksE_err hb
  | ok st => rw [e] at hb; exact blocksE_last hb
theorem sym_own {z : Nat → Nat} {ls : List Int} (hg : GoodO ls) {lim p s : Nat} (hs : s < 257) (h0 : 0 < lenF ls s) (h : SegH z p (codev (lenF ls) 257 s) (lenF ls s)) (hl : p + lenF ls s ≤ lim) : symE (lenF ls) 257 z lim p = .ok (s, p + lenF ls s) := by
  have each : ∀ i, i < 257 → lenF ls i ≤ 15 := fun i hi => by
    have hi' : i < ls.length := by rw [hg.len]; exact hi
    unfold lenF
    rw [List.getD_eq_getElem?_getD, List.getElem?_eq_getElem hi']
    have := hg.h15 ls[i] (List.getElem_mem hi')
    simp only [Option.getD_some]
    omega
  have hr := rdv_back (L := lenF ls) (N := 257) (b := bit z) hs h0 hl (each s hs) h (code_bits hs each hg.ok)
  have h2 := hg.two
  unfold symE
  rw [if_neg (by omega), if_neg (by omega), hr, if_pos rfl]
/-- What is laid so far says O, and goes on. -/
def SaysO (ls : List Int) (bs : List Int) (at' : Nat) (O : List Int) : Prop := ∀ (z : Nat → Nat) (lim most : Nat), Agree z bs at' → at' ≤ lim → O.length ≤ most → blocksE z lim most (0, []) = codedE (lenF ls) 257 (fun _ => 0) 1 z lim most (at', O)
theorem HeadO.says {ls bs : List Int} (h : HeadO (zb bs) ls) (hg : GoodO ls) : SaysO ls bs 1106 [] := fun z lim most ha hl _ =>
  hdr_own ⟨h.h0.back ha (by omega), h.h1.back ha (by omega), h.h2.back ha (by omega), h.h3.back ha (by omega), fun k hk => (h.h4 k hk).back ha (by omega), fun i hi => (h.h5 i hi).back ha (by omega), h.h6.back ha (by omega)⟩ hg hl
theorem SaysO.lit {ls bs bs' : List Int} {at' c : Nat} {O : List Int} (h : SaysO ls bs at' O) (hg : GoodO ls) (hc : c < 256) (h0 : 0 < lenF ls c) (ho : ∀ p, p < at' → bit (zb bs') p = bit (zb bs) p) (hn : SegH (zb bs') at' (codev (lenF ls) 257 c) (lenF ls c)) : SaysO ls bs' (at' + lenF ls c) (O ++ [(c : Int)]) := by
  intro z lim most ha hl hm
  have hm' : O.length + 1 ≤ most := by simpa using hm
  rw [h z lim most (ha.back (by omega) ho) (by omega) (by omega)]
  exact codedE_more (by unfold codedS; simp only; rw [sym_own hg (by omega) h0 (hn.back ha (by omega)) hl]; simp only; rw [if_neg (by omega), if_pos hc, if_neg (by omega)])
theorem SaysO.all {ls bs bs' : List Int} {at' : Nat} {O : List Int} (h : SaysO ls bs at' O) (hg : GoodO ls) (h0 : 0 < lenF ls 256) (ho : ∀ p, p < at' → bit (zb bs') p = bit (zb bs) p) (hn : SegH (zb bs') at' (codev (lenF ls) 257 256) (lenF ls 256)) {n most : Nat} (hl : at' + lenF ls 256 ≤ 8 * n) (hm : O.length ≤ most) : inflE (zb bs') n most = .ok (at' + lenF ls 256, O) := by
  unfold inflE
  rw [h (zb bs') (8 * n) most (fun p hp => ho p hp) (by omega) hm]
  exact codedE_done (by unfold codedS; simp only; rw [sym_own hg (by omega) h0 hn hl]; simp)

/-- The lengths, laid symbol by symbol. -/
def scat (us ls : List Int) : Nat → List Int
  | 0 => List.replicate 257 0
  | i + 1 => (scat us ls i).set (us.getD i 0).toNat (ls.getD i 0)
theorem scat_len (us ls : List Int) : ∀ i, (scat us ls i).length = 257
  | 0 => List.length_replicate
  | i + 1 => by simp only [scat, List.length_set]; exact scat_len us ls i
theorem scat_none {us ls : List Int} {q : Nat} : ∀ {i : Nat}, (∀ j, j < i → (us.getD j 0).toNat ≠ q) → (scat us ls i).getD q 0 = 0
  | 0, _ => by
    simp only [scat, List.getD_eq_getElem?_getD, List.getElem?_replicate]
    split <;> rfl
  | i + 1, h => by
    simp only [scat]
    rw [List.getD_eq_getElem?_getD, List.getElem?_set_ne (h i (by omega)), ← List.getD_eq_getElem?_getD]
    exact scat_none fun j hj => h j (by omega)
/-- Symbols, none twice, of 0 to 256. -/
structure Uses (us : List Int) : Prop where
  bd : ∀ j, j < us.length → 0 ≤ us.getD j 0 ∧ us.getD j 0 ≤ 256
  ne : ∀ j k, j < k → k < us.length → us.getD j 0 ≠ us.getD k 0
theorem Uses.far {us : List Int} (h : Uses us) {j k : Nat} (hj : j < us.length) (hk : k < us.length) (hjk : j ≠ k) : (us.getD j 0).toNat ≠ (us.getD k 0).toNat := by
  have h1 := h.bd j hj
  have h2 := h.bd k hk
  rcases Nat.lt_or_gt_of_ne hjk with h3 | h3
  · have := h.ne j k h3 hk; omega
  · have := h.ne k j h3 hj; omega
theorem scat_some {us ls : List Int} (h : Uses us) {j : Nat} : ∀ {i : Nat}, j < i → i ≤ us.length → (scat us ls i).getD (us.getD j 0).toNat 0 = ls.getD j 0
  | 0, hj, _ => by omega
  | i + 1, hj, hi => by
    simp only [scat]
    by_cases e : j = i
    · subst e
      have := h.bd j (by omega)
      rw [List.getD_eq_getElem?_getD, List.getElem?_set_self (by rw [scat_len]; omega)]
      rfl
    · rw [List.getD_eq_getElem?_getD, List.getElem?_set_ne (h.far (by omega) (by omega) (by omega)), ← List.getD_eq_getElem?_getD]
      exact scat_some h (by omega) (by omega)
theorem scat_kr {us ls : List Int} (h : Uses us) (hl : ls.length = us.length) : ∀ {i : Nat}, i ≤ us.length → kr (scat us ls i) = kr (ls.take i)
  | 0, _ => by
    have : ∀ n, kr (List.replicate n 0) = 0 := fun n => by
      induction n with
      | zero => rfl
      | succ n ih => rw [List.replicate_succ]; simp [kr, ih, kt]
    exact this 257
  | i + 1, hi => by
    have hb := h.bd i (by omega)
    have hs := kr_set (scat us ls i) (us.getD i 0).toNat (ls.getD i 0) (by rw [scat_len]; omega)
    rw [scat_none (fun j hj => h.far (by omega) (by omega) (by omega)), scat_kr h hl (by omega)] at hs
    have e : ls.take (i + 1) = ls.take i ++ [ls.getD i 0] := by
      rw [List.take_add_one]
      congr 1
      simp [show i < ls.length by omega]
    rw [e, kr_append]
    simp only [scat]
    have k0 : kt 0 = 0 := by decide
    simp only [kr]
    omega
theorem scat_bd {us ls : List Int} (hb : ∀ k, 0 ≤ ls.getD k 0 ∧ ls.getD k 0 ≤ 15) : ∀ i, ∀ x ∈ scat us ls i, 0 ≤ x ∧ x ≤ 15
  | 0, x, hx => by have := List.eq_of_mem_replicate (show x ∈ List.replicate 257 (0 : Int) from hx); subst this; omega
  | i + 1, x, hx => by
    simp only [scat] at hx
    rcases List.mem_or_eq_of_mem_set hx with h | h
    · exact scat_bd hb i x h
    · subst h; exact hb i
theorem some_one {L : Nat → Nat} {i : Nat} : ∀ {N : Nat}, i < N → L i ≠ 0 → 1 ≤ some' L N
  | N + 1, h, h0 => by
    simp only [some']
    by_cases e : i = N
    · subst e; rw [if_neg h0]; omega
    · have := some_one (N := N) (by omega) h0; omega
theorem some_two {L : Nat → Nat} {i j : Nat} : ∀ {N : Nat}, i < j → j < N → L i ≠ 0 → L j ≠ 0 → 2 ≤ some' L N
  | N + 1, h, hj, h0, h1 => by
    simp only [some']
    by_cases e : j = N
    · subst e; rw [if_neg h1]; have := some_one (N := j) h h0; omega
    · have := some_two (N := N) h (by omega) h0 h1; omega
/-- The lengths that come of splitting, with the end among them, are a code. -/
theorem scat_good {us ls : List Int} (h : Uses us) (ht : Tree ls) (hl : ls.length = us.length) (h2 : 2 ≤ us.length) (h256 : us.getD 0 0 = 256) : GoodO (scat us ls us.length) ∧ GoodL (fun i => (scat us ls us.length).getD i 0) 257 ∧ ∀ j, j < us.length → 0 < lenF (scat us ls us.length) (us.getD j 0).toNat := by
  have hT : (∀ x ∈ ls, 1 ≤ x ∧ x ≤ 15) ∧ kr ls = 32768 := by
    rcases ht with rfl | ht
    · simp at hl; omega
    · exact ht
  have hk : kr (scat us ls us.length) = 32768 := by rw [scat_kr h hl (Nat.le_refl _), List.take_of_length_le (by omega), hT.2]
  have hb := scat_bd (us := us) ht.bd us.length
  have hw : Whole (scat us ls us.length) := ⟨hb, .inl hk⟩
  have hG := hw.good (by rw [scat_len]; omega)
  rw [scat_len] at hG
  have hp : ∀ j, j < us.length → 0 < lenF (scat us ls us.length) (us.getD j 0).toNat := fun j hj => by
    unfold lenF
    rw [scat_some h hj (Nat.le_refl _)]
    have hj' : j < ls.length := by omega
    rw [List.getD_eq_getElem?_getD, List.getElem?_eq_getElem hj']
    have := hT.1 ls[j] (List.getElem_mem hj')
    simp only [Option.getD_some]
    omega
  have e0 : (us.getD 0 0).toNat = 256 := by rw [h256]; rfl
  have p0 := hp 0 (by omega)
  have p1 := hp 1 (by omega)
  have b1 := h.bd 1 (by omega)
  have n1 := h.far (j := 1) (k := 0) (by omega) (by omega) (by omega)
  rw [e0] at p0 n1
  refine ⟨⟨scat_len _ _ _, hb, hG.ok, some_two (i := (us.getD 1 0).toNat) (j := 256) (by omega) (by omega) (by omega) (by omega), fun h0 => ?_⟩, hG, hp⟩
  unfold lenF at p0
  rw [h0] at p0
  simp at p0
end Go.Proofs.YtkhfdjgnomkfgaaDoor
